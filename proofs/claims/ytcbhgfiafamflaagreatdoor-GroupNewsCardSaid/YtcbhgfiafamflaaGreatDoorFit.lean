/- Contracts as the laws use them. -/
import Derived.Test.YtcbhgfiafamflaaGreatDoorShaA
import Derived.Laws.BytesArg
import Derived.Laws.BytesString
import Derived.WideShapes
import Derived.Test.YtcbhgfiafamflaaGreatDoorNatP
import Derived.Test.YtcbhgfiafamflaaGreatDoorNatG
import Derived.Test.YtcbhgfiafamflaaGreatDoorFlowS
set_option maxRecDepth 1000000
set_option maxHeartbeats 16000000
namespace Go.Proofs.YtcbhgfiafamflaaGreatDoor
open Go Go.RowKit
def GivesHash (m : List Nat) (w : World) (e : Ending) (w' : World) : Prop := ∃ g, e = .returned (.pointer (some ⟨g, 0, none⟩)) ∧ w.heap.size ≤ g ∧ Below w.heap.size w w' ∧ HashAt w' g m
theorem HashAt.new {w : World} {g : Nat} (h : HBox w g hnull (List.replicate 64 0) 0) : HashAt w g [] :=
 ⟨List.replicate 64 0, by simp, fun x hx => by have := (List.mem_replicate.1 hx).2; omega, h, rfl⟩
def hzero : List Value := hcells (List.replicate 8 0) (List.replicate 64 0) 0
def hlen (L : Nat) : List Value := hcells (List.replicate 8 0) (List.replicate 64 0) L
theorem hlen_length (L : Nat) : (hlen L).length = 73 := rfl
theorem hzero_length : hzero.length = 73 := rfl
theorem zero_hash (w : World) : (zeroValue 144).run Tryz.prog w = .ok (.agg hzero.toArray) w := by
 have h : (Tryz.prog.info? 144).map (·.zero) = some (some (.agg hzero.toArray)) := by kernel_rfl
 cases hi : Tryz.prog.info? 144 with
 | none => rw [hi] at h; cases h
 | some i =>
  rw [hi] at h
  have hz : i.zero = some (.agg hzero.toArray) := by simpa using h
  simp [zeroValue, typeInfo, hi, hz]
theorem shanew_calls (w : World) (hT : Tabs w) : Calls Tryz.prog 62 #[] w (GivesHash [] w) := by
 have hz := zero_hash
 have hzl := hzero_length
 obtain ⟨t0, fr0, hf0⟩ := hT.first
 have hi8 : (Tryz.prog.info? 141).map (·.size) = some (hnull.map fun (x : Nat) => Value.int .u32 x).toArray.size := by
  rw [show (hnull.map fun (x : Nat) => Value.int .u32 x).toArray.size = 8 by rfl]; kernel_rfl
 go_enter Tryz.func62, Tryz.ntmps62
 go_wp2_with (refine wpList_load_row rfl 141 _ rfl 0 rfl t0 (hnull.map fun (x : Nat) => Value.int .u32 x).toArray fr0 _ hf0 Tryz.underlying141 rfl hi8 ?_)
 have hf : (List.foldl (fun (cs : Array Value) x => cs.setIfInBounds x.snd x.fst) hzero.toArray (hnull.map fun (x : Nat) => Value.int .u32 x).zipIdx) = (hcells hnull (List.replicate 64 0) 0).toArray := by kernel_rfl
 refine bodyPost_ret (v := .pointer (some ⟨w.heap.size, 0, none⟩)) (by simp [results, Tryz.results62, go_sem]) rfl ⟨_, rfl, Nat.le_refl _, (Below.refl _ _).alloc (Nat.le_refl _) _, HashAt.new ?_⟩
 rw [hf]
 exact heap_alloc_new w _
theorem slice_state (w : World) (b off : Nat) :
  (Instr.sliceAt 141 (.pointer (some ⟨b, off, none⟩)) none none none).run Tryz.prog w = .ok (.slice (some ⟨b, off, none⟩) 8 8) w := by
 have hlen : Tryz.prog.arrayLen 141 = 8 := by kernel_rfl
 rw [run_sliceAt_array_all w 141 ⟨b, off, none⟩ Tryz.underlying141, hlen]
 have hs : (sizeOf (Tryz.prog.elem 141)).run Tryz.prog w = .ok 1 w := by
  have : Tryz.prog.elem 141 = 77 := by kernel_rfl
  rw [this]
  simp [go_sem]
 rw [hs]
 simp [slicedAt, Addr.add]
theorem slice_block (w : World) (b off : Nat) :
  (Instr.sliceAt 142 (.pointer (some ⟨b, off, none⟩)) none none none).run Tryz.prog w = .ok (.slice (some ⟨b, off, none⟩) 64 64) w := by
 have hlen : Tryz.prog.arrayLen 142 = 64 := by kernel_rfl
 rw [run_sliceAt_array_all w 142 ⟨b, off, none⟩ Tryz.underlying142, hlen]
 have hs : (sizeOf (Tryz.prog.elem 142)).run Tryz.prog w = .ok 1 w := by
  have : Tryz.prog.elem 142 = 5 := by kernel_rfl
  rw [this]
  simp [go_sem]
 rw [hs]
 simp [slicedAt, Addr.add]
theorem copy_calls (w : World) (g : Nat) (m : List Nat) (hH : HashAt w g m) : Calls Tryz.prog 102 #[.pointer (some ⟨g, 0, none⟩)] w (GivesHash m w) := by
 obtain ⟨pend, q1, q2, q3, q4⟩ := hH.ex
 have hst8 := blocks_length m (m.length / 64)
 obtain ⟨st, hst⟩ : ∃ st, blocks m (m.length / 64) = st := ⟨_, rfl⟩
 obtain ⟨L, hL⟩ : ∃ L, m.length % 18446744073709551616 = L := ⟨_, rfl⟩
 have c72 := q3.cell (hcells_len hst8 q1)
 have HST := Lib.hid hst
 have HL := Lib.hid hL
 rw [hL] at c72 q3
 rw [hst] at q3 hst8
 have hlt := q3.lt
 have hz := zero_hash
 have hzl := hzero_length
 have HQ3 := Lib.hid q3
 have hcS : ∀ (j : Nat) (v : Value), (st.map fun (x : Nat) => Value.int .u32 x)[j]? = some v → w.cell? ((⟨g, 0, none⟩ : Addr).add j) = some v := fun j v hv => by
  rw [List.getElem?_map] at hv
  obtain ⟨x, hx, rfl⟩ := Option.map_eq_some_iff.1 hv
  have hj : j < 8 := by have := (List.getElem?_eq_some_iff.1 hx).1; omega
  rw [add_plain, Nat.zero_add]
  refine q3.cell ?_
  rw [hcells_state hst8 hj, List.getD_eq_getElem?_getD, hx]; rfl
 have hcP : ∀ (j : Nat) (v : Value), (pend.map fun (x : Nat) => Value.int .u8 x)[j]? = some v → w.cell? ((⟨g, 8, none⟩ : Addr).add j) = some v := fun j v hv => by
  rw [List.getElem?_map] at hv
  obtain ⟨x, hx, rfl⟩ := Option.map_eq_some_iff.1 hv
  have hj : j < 64 := by have := (List.getElem?_eq_some_iff.1 hx).1; omega
  rw [add_plain]
  refine q3.cell ?_
  rw [hcells_pend hst8 q1 hj, List.getD_eq_getElem?_getD, hx]; rfl
 have HS8 := Lib.hid hst8
 have HQ1 := Lib.hid q1
 have HCS := Lib.hid hcS
 have HCP := Lib.hid hcP
 have hOne : ∀ (k : IntKind) (xs : List Nat), ∀ v ∈ (xs.map fun (x : Nat) => Value.int k x), v.oneCell' = true := fun k xs v hv => by
  obtain ⟨x, _, rfl⟩ := List.mem_map.1 hv
  rfl
 have HON := Lib.hid hOne
 have hset : hzero.set 72 (.int .u64 (L : Nat)) = hlen L := hcells_set_len (by simp) (by simp)
 clear hL hst q3 hcS hcP hOne
 obtain ⟨csS, hcsS⟩ : ∃ cs, (st.map fun (x : Nat) => Value.int .u32 x) = cs := ⟨_, rfl⟩
 obtain ⟨csP, hcsP⟩ : ∃ cs, (pend.map fun (x : Nat) => Value.int .u8 x) = cs := ⟨_, rfl⟩
 have hlS : csS.length = 8 := by rw [← hcsS, List.length_map]; exact hst8
 have hlP : csP.length = 64 := by rw [← hcsP, List.length_map]; exact q1
 have HSP1 : Hid (splice (hlen L) 0 csS = hcells st (List.replicate 64 0) L) := by rw [← hcsS]; exact splice_state (by simp) hst8
 have HSP2 : Hid (splice (hcells st (List.replicate 64 0) L) 8 csP = hcells st pend L) := by
  rw [← hcsP]
  have h := splice_pend (st := st) (pend := List.replicate 64 0) (len := L) (xs := pend) (r := 0) hst8 (by simp [q1])
  refine h.trans ?_
  congr 1
  unfold splice
  rw [List.take_zero, List.nil_append, List.drop_of_length_le (by simp [q1]), List.append_nil]
 rw [hcsS] at HCS
 rw [hcsP] at HCP
 have HO1 : Hid (∀ v ∈ csS, v.oneCell' = true) := by rw [← hcsS]; exact HON.out _ _
 have HO2 : Hid (∀ v ∈ csP, v.oneCell' = true) := by rw [← hcsP]; exact HON.out _ _
 clear hcsS hcsP hst8 q1
 go_enter Tryz.func102, Tryz.ntmps102
 go_wp2
 have hn0 := heap_alloc_new w (.cells (hlen L).toArray 144)
 have hb0 : Below w.heap.size w (w.alloc (.cells (hlen L).toArray 144)) := bal
 have hsz0 : w.heap.size < (w.alloc (.cells (hlen L).toArray 144)).heap.size := by simp
 generalize w.alloc (.cells (hlen L).toArray 144) = w1 at *
 have HN0 := Lib.hid hn0
 have hcS1 : ∀ (j : Nat) (v : Value), csS[j]? = some v → w1.cell? ((⟨g, 0, none⟩ : Addr).add j) = some v := fun j v hv => by
  have h := HCS.out j v hv
  rw [add_plain] at h ⊢
  rw [(bcell hb0).1 _ _ hlt]; exact h
 have HCS1 := Lib.hid hcS1
 have HF1 : Hid (0 + csS.length ≤ (hlen L).length) := by show 0 + csS.length ≤ (hlen L).length; rw [hlS, hlen_length]; omega
 have HM1 : Hid (csS.length = Nat.min 8 8) := hlS
 clear hcS1 hn0 hset
 have hsl1 := slice_state
 have hsl2 := slice_block
 go_region_law (refine step_copy_but rfl (.tmp 15) (.tmp 19) 31 31 rfl 77 Tryz.underlying31 (by kernel_rfl) (some ⟨w.heap.size, 0, none⟩) (some ⟨g, 0, none⟩) 8 8 8 8 (by simp [Act.eval, Act.put, go_sem]) (by simp [Act.eval, Act.put, go_sem]) w.heap.size 0 (hlen L) 144 HN0.out csS HM1.out (fun _ => ⟨rfl, _, rfl, HCS1.out⟩) HF1.out HO1.out ?_; intro w4 hg4 hb4)
 rw [HSP1.out] at hg4
 have hb5 : Below w.heap.size w w4 := hb0.trans ((hb4.of_drew).below (Nat.le_refl _) (Nat.le_of_lt hsz0))
 have hcP1 : ∀ (j : Nat) (v : Value), csP[j]? = some v → w4.cell? ((⟨g, 8, none⟩ : Addr).add j) = some v := fun j v hv => by
  have h := HCP.out j v hv
  rw [add_plain] at h ⊢
  rw [(bcell hb5).1 _ _ hlt]; exact h
 have HCP1 := Lib.hid hcP1
 have HB5 := Lib.hid hb5
 have HF2 : Hid (8 + csP.length ≤ (hcells st (List.replicate 64 0) L).length) := by show 8 + csP.length ≤ List.length _; rw [hlP, hcells_length HS8.out (by simp)]; omega
 have HM2 : Hid (csP.length = Nat.min 64 64) := hlP
 obtain ⟨cur, hcur⟩ : ∃ cur, hcells st (List.replicate 64 0) L = cur := ⟨_, rfl⟩
 rw [hcur] at hg4 HF2 HSP2
 have HC4 := hg4
 clear hcP1 hb5 hcur hg4 HN0 hb4 hb0 hsz0
 go_wp2
 have hs4 : w.heap.size < w4.heap.size := (Array.getElem?_eq_some_iff.1 HC4.out).1
 go_region_law (refine step_copy_but rfl (.tmp 24) (.tmp 28) 23 23 rfl 5 Tryz.underlying23 (by kernel_rfl) (some ⟨w.heap.size, 8, none⟩) (some ⟨g, 8, none⟩) 64 64 64 64 (by simp [Act.eval, Act.put, go_sem]) (by simp [Act.eval, Act.put, go_sem]) w.heap.size 8 cur 144 HC4.out csP HM2.out (fun _ => ⟨rfl, _, rfl, HCP1.out⟩) HF2.out HO2.out ?_; intro w6 hg6 hb6)
 rw [HSP2.out] at hg6
 have hb7 : Below w.heap.size w w6 := HB5.out.trans ((hb6.of_drew).below (Nat.le_refl _) (Nat.le_of_lt hs4))
 have HB7 := Lib.hid hb7
 clear hb6 hb7
 go_wp2
 go_ret
 refine ⟨_, rfl, Nat.le_refl _, HB7.out, ⟨pend, HQ1.out, q2, ?_, q4⟩⟩
 rw [HST.out, HL.out]
 exact hg6.out
def GivesSum (m : List Nat) (w : World) (e : Ending) (w' : World) : Prop := ∃ q, e = .returned (.slice (some ⟨q, 0, none⟩) 32 32) ∧ w.heap.size ≤ q ∧ Below w.heap.size w w' ∧ Blk w' q 5 .u8 (sha m)
theorem hsum_calls (w : World) (g : Nat) (m : List Nat) (hT : Tabs w) (hH : HashAt w g m) : Calls Tryz.prog 65 #[.pointer (some ⟨g, 0, none⟩)] w (GivesSum m w) := by
 have hlt := hH.lt
 obtain ⟨L, hL⟩ : ∃ L, m.length % 18446744073709551616 = L := ⟨_, rfl⟩
 have hL64 : L < 18446744073709551616 := by omega
 have HL := Lib.hid hL
 clear hL
 go_enter Tryz.func65, Tryz.ntmps65
 go_wp2_with fail
 refine (copy_calls w g m hH).mono ?_
 rintro e w1 ⟨q, rfl, hq, hb1, hh1⟩
 have hT1 := hT.below hb1 hT.size
 have c72 : w1.cell? ⟨g, 72, none⟩ = some (.int .u64 (L : Nat)) := by
  obtain ⟨pend, q1, _, q3, _⟩ := (hH.below hb1 hlt).ex
  have h := q3.cell (hcells_len (blocks_length m _) q1)
  rw [HL.out] at h
  exact h
 go_wp2_with fail
 refine (behind_calls w1 L hL64).mono ?_
 rintro e w2 ⟨rfl, hb2, hk2⟩
 have hh2 := hh1.below hb2 hh1.lt
 have hT2 := hT1.below hb2 hT1.size
 have hz12 := hb1.size
 have hz22 := hb2.size
 have hbl : behind L = behind m.length := by rw [← HL.out, behind_mod]
 rw [hbl] at hk2
 have hnl : noughts L + 9 = (behind m.length).length := by rw [← hbl, behind_length]
 have hrow : RowIn w2 .u8 (some ⟨w1.heap.size, 0, none⟩) (noughts L + 9) (noughts L + 9) (behind m.length) :=
  ⟨hnl, Nat.le_refl _, by have : noughts L < 64 := Nat.mod_lt _ (by omega); omega, fun _ => hk2.row hnl (Nat.le_refl _) (by have : noughts L < 64 := Nat.mod_lt _ (by omega); omega)⟩
 have hqlt := hh1.lt
 clear hbl hnl
 go_wp2_with fail
 refine (shaadd_calls w2 q m _ _ _ (behind m.length) hT2 hh2 (by have := hT.size; omega) hrow (behind_bytes _) (fun _ a ha => by cases ha; show w1.heap.size ≠ q; omega)).mono ?_
 rintro e w3 ⟨rfl, hb3, hh3⟩
 have hb13 : Below w.heap.size w w3 := (hb1.trans (hb2.mono hz12)).trans (hb3.below hq (by omega))
 obtain ⟨pend, q1, q2, q3, q4⟩ := hh3.ex
 have hz13 := hb13.size
 go_wp2_with fail
 refine (shabytes_calls w3 q _ pend _ (blocks_length _ _) (blocks_words _ _) q3).mono ?_
 rintro e w4 ⟨rfl, hb4, hk4⟩
 rw [List.length_append] at hk4
 go_wp2
 go_ret
 exact ⟨_, rfl, hz13, hb13.trans (hb4.mono hz13), hk4⟩
end Go.Proofs.YtcbhgfiafamflaaGreatDoor
namespace Go.Proofs.YtcbhgfiafamflaaGreatDoor
open Go Go.RowKit
def brw (x y c : Nat) : Nat := if x < y + c then 1 else 0
theorem brw_le (x y c : Nat) : brw x y c ≤ 1 := by unfold brw; split <;> omega
theorem top_bit (n : Nat) (h : n < 4294967296) : n.testBit 31 = decide (2147483648 ≤ n) := by
 rw [Nat.testBit_eq_decide_div_mod_eq]
 simp only [Nat.reducePow]
 rw [decide_eq_decide]
 omega
theorem top_div (n : Nat) (h : n < 4294967296) : n / 2147483648 = (n.testBit 31).toNat := by
 rw [top_bit n h]
 by_cases h1 : 2147483648 ≤ n
 ·simp [h1]; omega
 ·simp [h1]; omega
theorem and_lt32n {a b : Nat} (h : b < 4294967296) : a &&& b < 4294967296 := Nat.lt_of_le_of_lt Nat.and_le_right h
theorem xor_lt32n {a b : Nat} (ha : a < 4294967296) (hb : b < 4294967296) : a ^^^ b < 4294967296 := Nat.xor_lt_two_pow (n := 32) ha hb
theorem or_lt32n {a b : Nat} (ha : a < 4294967296) (hb : b < 4294967296) : a ||| b < 4294967296 := Nat.or_lt_two_pow (n := 32) ha hb
theorem sub32_top (x y c d : Nat) (hx : x < 4294967296) (hy : y < 4294967296) (hc : c ≤ 1) (hd : d = (x + 8589934592 - y - c) % 4294967296) :
  (((4294967295 ^^^ x) &&& y) ||| ((4294967295 ^^^ (x ^^^ y)) &&& d)) / 2147483648 = brw x y c := by
 have hdl : d < 4294967296 := by rw [hd]; exact Nat.mod_lt _ (by omega)
 rw [top_div _ (or_lt32n (and_lt32n hy) (and_lt32n hdl))]
 simp only [Nat.testBit_or, Nat.testBit_and, Nat.testBit_xor]
 rw [top_bit x hx, top_bit y hy, top_bit d hdl, top_bit 4294967295 (by omega)]
 unfold brw
 by_cases h1 : 2147483648 ≤ x <;> by_cases h2 : 2147483648 ≤ y <;> by_cases h3 : 2147483648 ≤ d <;> by_cases h4 : x < y + c <;> simp [h1, h2, h3, h4] <;> omega
theorem sub32_bits (x y c : Nat) (hx : x < 4294967296) (hy : y < 4294967296) (hc : c ≤ 1) :
  bits BinOp.or IntKind.u32 (bits BinOp.and IntKind.u32 (bits BinOp.xor IntKind.u32 IntKind.u32.max ↑x) ↑y)
        (bits BinOp.and IntKind.u32
         (bits BinOp.xor IntKind.u32 IntKind.u32.max (bits BinOp.xor IntKind.u32 ↑x ↑y))
         (((x : Int) - y - c) % 4294967296)) / 2147483648 = (brw x y c : Nat) := by
 have hm : IntKind.u32.max = ((4294967295 : Nat) : Int) := rfl
 obtain ⟨d, hd⟩ : ∃ d, d = (x + 8589934592 - y - c) % 4294967296 := ⟨_, rfl⟩
 have hd' : ((x : Int) - y - c) % 4294967296 = (d : Nat) := by omega
 have hdl : d < 4294967296 := by omega
 rw [hm, hd', u32_xor_nat _ _ (by omega) hx, u32_xor_nat _ _ hx hy, u32_xor_nat _ _ (by omega) (xor_lt32n hx hy), u32_and_nat _ _ (xor_lt32n (by omega) hx) hy,
  u32_and_nat _ _ (xor_lt32n (by omega) (xor_lt32n hx hy)) hdl, u32_or_nat _ _ (and_lt32n hy) (and_lt32n hdl)]
 have := sub32_top x y c d hx hy hc hd
 omega
theorem sub32_calls (x y c : Nat) (w : World) (hx : x < 4294967296) (hy : y < 4294967296) (hc : c ≤ 1) :
  Calls Tryz.prog 132 #[.int .u32 x, .int .u32 y, .int .u32 c] w fun e w' =>
   e = .returned (.tuple #[.int .u32 (((x : Int) - y - c) % 4294967296), .int .u32 (brw x y c : Nat)]) ∧ w = w' := by
 have hs : IntKind.u32.signed = false := rfl
 have hq := Lib.hid (sub32_bits x y c hx hy hc)
 go_enter Tryz.func132, Tryz.ntmps132
 go_wp2
 go_ret2
 have e6 : (((x : Int) - y) % 4294967296 - c) % 4294967296 = ((x : Int) - y - c) % 4294967296 := by omega
 exact ⟨by rw [hq.out]; exact congrArg (fun z => Ending.returned (.tuple #[.int .u32 z, .int .u32 (brw x y c : Nat)])) e6, rfl⟩
structure DifSt (A B : List Nat) (k : Nat) (S : List Nat) (bw : Nat) : Prop where
 len : S.length = k
 words : Words S
 carry : bw ≤ 1
 eq : val S + val (B.take k) = val (A.take k) + B32 k * bw
theorem DifSt.start (A B : List Nat) : DifSt A B 0 [] 0 := ⟨rfl, Words.nil, by omega, by simp [val]⟩
theorem DifSt.step {A B : List Nat} {k : Nat} {S : List Nat} {bw d : Nat} (h : DifSt A B k S bw) (hA : Words A) (hB : Words B) (hd : (d : Int) = (((A.getD k 0 : Nat) : Int) - (B.getD k 0 : Nat) - bw) % 4294967296) :
  DifSt A B (k + 1) (S ++ [d]) (brw (A.getD k 0) (B.getD k 0) bw) := by
 have h1 := hA.get k
 have h2 := hB.get k
 have h3 := h.carry
 refine ⟨by simp [h.len], h.words.snoc (by omega), brw_le _ _ _, ?_⟩
 rw [val_snoc, h.len, val_take_succ', val_take_succ', B32_succ]
 have e := h.eq
 have hb : d + B.getD k 0 + bw = A.getD k 0 + 4294967296 * brw (A.getD k 0) (B.getD k 0) bw := by
  unfold brw; split <;> omega
 generalize A.getD k 0 = x at *
 generalize B.getD k 0 = y at *
 generalize brw x y bw = q at *
 generalize B32 k = b at *
 have e2 : b * (d + y + bw) = b * (x + 4294967296 * q) := by rw [hb]
 have e3 : b * (4294967296 * q) = 4294967296 * b * q := by rw [← Nat.mul_assoc, Nat.mul_comm b]
 rw [Nat.mul_add, Nat.mul_add, Nat.mul_add, e3] at e2
 omega
theorem DifSt.last {A B : List Nat} {k : Nat} {S : List Nat} {bw : Nat} (h : DifSt A B k S bw) (hA : A.length = k) (hB : B.length ≤ k) (hle : val B ≤ val A) : val S = val A - val B := by
 have e := h.eq
 rw [List.take_of_length_le (l := A) (by omega), List.take_of_length_le hB] at e
 have h1 := h.words.lt
 rw [h.len] at h1
 have h2 := h.carry
 rcases Nat.lt_or_ge bw 1 with h3 | h3
 ·obtain rfl : bw = 0 := by omega
  omega
 ·obtain rfl : bw = 1 := by omega
  omega
def GivesDif (N M : Nat) (w : World) (e : Ending) (w' : World) : Prop := ∃ p n c, e = .returned (.tuple #[.agg #[.slice p n c], .bool (decide (M ≤ N))]) ∧ NatAt w' p n c (N - M) ∧ Below w.heap.size w w' ∧ New w.heap.size p
theorem sub_calls (w : World) (pa : Option Addr) (na ca N : Nat) (pb : Option Addr) (nb cb M : Nat) (hA : NatAt w pa na ca N) (hB : NatAt w pb nb cb M) (hs : na < 1000000) (hsb : nb < 1000000) :
  Calls Tryz.prog 112 #[.agg #[.slice pa na ca], .agg #[.slice pb nb cb]] w (GivesDif N M w) := by
 have hb0 : Below w.heap.size w (((w.alloc (.cells #[.slice pa na ca] 33)).alloc (.cells #[.slice pb nb cb] 33)).alloc (.cells #[.slice none 0 0] 33)) :=
  (((Below.refl _ w).alloc (Nat.le_refl _) _).alloc (by simp) _).alloc (by simp; omega) _
 by_cases hlt : N < M
 ·have hcm : cmpI N M = -1 := cmpI_lt hlt
  go_enter Tryz.func112, Tryz.ntmps112
  go_wp2_with fail
  refine (cmp_calls _ pa pb na ca N nb cb M (hA.below hb0) (hB.below hb0) hs hsb).mono ?_
  rintro e w1 ⟨rfl, hb1⟩
  obtain ⟨hc, hf⟩ := bcell hb1
  have hz := hb1.size
  simp only [World.size_alloc] at hz
  go_wp2
  refine bodyPost_ret (v := .tuple #[.agg #[.slice none 0 0], .bool false]) (by simp [results, Tryz.results112, go_sem, hc]) rfl ⟨none, 0, 0, by simp [show ¬ M ≤ N by omega], ?_, ?_, New.none _⟩
  ·exact ⟨[], Row.nil _ _, Words.nil, by simp, by simp [val]; omega⟩
  ·exact (hb0.trans (hb1.mono (by simp; omega))).setCell (by simp; omega) _
 ·have hcm : ¬ cmpI N M < 0 := by
   unfold cmpI; rw [if_neg hlt]; split <;> omega
  obtain ⟨A, a1, a2, a3, rfl⟩ := hA.ex
  obtain ⟨B, b1, b2, b3, rfl⟩ := hB.ex
  have HA := Lib.hid a1.len
  have HB := Lib.hid b1.len
  have hle : nb ≤ na := by
   rcases Nat.lt_or_ge na nb with h | h
   ·exact absurd (hA.len_lt hB h) hlt
   ·exact h
  have hmk := make_u32 na (by omega)
  go_enter Tryz.func112, Tryz.ntmps112
  go_wp2_with fail
  refine (cmp_calls _ pa pb na ca _ nb cb _ (hA.below hb0) (hB.below hb0) hs hsb).mono ?_
  rintro e w1 ⟨rfl, hb1⟩
  have hbx := (Boxes3.mk3 w (.slice pa na ca) (.slice pb nb cb) (.slice none 0 0) 33 33 33).later hb1
  have c0 := hbx.c0
  have c1 := hbx.c1
  have c2 := hbx.c2
  have f2 := hbx.f2
  have hz0 : w.heap.size < w1.heap.size := by have := hbx.size; omega
  have hz1 : w.heap.size + 1 < w1.heap.size := by have := hbx.size; omega
  have hz2 : w.heap.size + 1 + 1 < w1.heap.size := by have := hbx.size; omega
  have HC := Lib.hid (show decide (cmpI (val A) (val B) < 0) = false by simpa using hcm)
  go_wp2
  go_loopw [7, 22] (fun cy i wr => ∃ k c : Nat, ∃ S, k ≤ na ∧ i = .int .i64 k ∧ cy = .int .u32 c ∧ Boxes3 w wr (.slice pa na ca) (.slice pb nb cb) (.slice none 0 0) ∧ w1.heap.size < wr.heap.size ∧ Below w1.heap.size w1 wr ∧ DifSt A B k S c ∧ Blk wr w1.heap.size 77 .u32 (S ++ List.replicate (na - k) 0)) (fun _ i _ => na - (intOf i).toNat)
  case atStart =>
   refine ⟨0, 0, [], by omega, rfl, rfl, hbx.alloc _, by simp, (Below.refl _ _).alloc (Nat.le_refl _) _, DifSt.start A B, ?_⟩
   exact Blk.zeros _ _ _ _
  case round =>
   obtain ⟨k, bw, S, hk, rfl, rfl, hbr, hsr, hbw, hS, hblk⟩ := hrel
   clear c0 c1 c2 f2
   have d0 := hbr.c0
   have d1 := hbr.c1
   have d2 := hbr.c2
   have g2 := hbr.f2
   by_cases hkn : k < na
   ·obtain ⟨b, off, rfl, hb, hc⟩ := a1.pos (by omega)
    obtain ⟨x, hx⟩ : ∃ x, A.getD k 0 = x := ⟨_, rfl⟩
    obtain ⟨y, hy⟩ : ∃ y, B.getD k 0 = y := ⟨_, rfl⟩
    have hci : wr.cell? ⟨b, off + k, none⟩ = some (.int .u32 (x : Nat)) := by
     rw [(bcell hbr.bel).1 _ _ hb]
     exact hc k x (by rw [← hx, List.getD_eq_getElem?_getD]; simp [show k < A.length by have := HA.out; omega])
    have HX := Lib.hid hx
    have HY := Lib.hid hy
    have HSk := Lib.hid hS.len
    clear hc hx hy
    have hg0 := hblk.zero_cell HSk.out (by omega)
    have hgf := hblk.free k
    go_wp2_with fail
    refine (word_calls wr pb nb cb B k y (b1.below hbr.bel) (by omega) HY.out).mono ?_
    rintro e w2 ⟨rfl, hb2⟩
    have hy : y < 4294967296 := by rw [← HY.out]; exact b2.get k
    have hx' : x < 4294967296 := by rw [← HX.out]; exact a2.get k
    have hcy := hS.carry
    have hg0' := ((bcell hb2).1 _ k hblk.lt).trans hg0
    have hgf' := ((bcell hb2).2 _ k hblk.lt).trans hgf
    obtain ⟨d, hd⟩ : ∃ d : Nat, (d : Int) = ((x : Int) - y - bw) % 4294967296 := ⟨(((x : Int) - y - bw) % 4294967296).toNat, by omega⟩
    have HD := Lib.hid hd
    clear hd
    go_wp2_with fail
    refine (sub32_calls x y bw _ hx' hy hcy).mono ?_
    rintro e w3 ⟨rfl, rfl⟩
    rw [← HD.out]
    go_wp2
    go_roundw
    case rel =>
     refine ⟨k + 1, _, S ++ [d], by omega, by go_num, rfl, (hbr.later hb2).below (B := w.heap.size + 3) ((Below.refl _ _).setCell (by simp; omega) _) (Nat.le_refl _), by have := hb2.size; simp; omega, (hbw.trans (hb2.mono (by omega))).setCell (by simp) _, ?_, ?_⟩
     ·have := hS.step (d := d) a2 b2 (by rw [HX.out, HY.out]; exact HD.out)
      rw [HX.out, HY.out] at this
      exact this
     ·exact (hblk.below hb2 hblk.lt).next HSk.out (by omega) d
    case measure => clear HD; simp [intOf]; omega
   ·have hkn' : na ≤ k := by omega
    have hrow := (hblk.row (n := na) (c := na) (by have := hS.len; simp; omega) (Nat.le_refl _) (by omega))
    have hw2 : Words (S ++ List.replicate (na - k) 0) := hS.words.append (Words.zeros _)
    go_wp2_with fail
    refine (trimmed_calls _ _ _ _ _ hrow hw2).mono ?_
    rintro e w2 ⟨p, n, c, rfl, hn, hb2, hp⟩
    have hbx3 := hbr.later hb2
    have k2 := hbx3.c2
    have e2 := hbx3.f2
    have hn' : New w1.heap.size p := by
     intro q hq
     rcases hp with rfl | rfl
     ·cases hq
     ·cases hq; simp
    have hv : val (S ++ List.replicate (na - k) 0) = val A - val B := by
     rw [val_append, val_zeros, Nat.mul_zero, Nat.add_zero]
     exact hS.last (by have := HA.out; omega) (by have := HB.out; omega) (by omega)
    have HV := Lib.hid hv
    clear hv
    go_wp2
    refine bodyPost_ret (v := .tuple #[.agg #[.slice p n c], .bool true]) (by simp [results, Tryz.results112, go_sem, k2]) rfl ⟨p, n, c, by simp [show val B ≤ val A by omega], ?_, ?_, hn'.mono (by omega)⟩
    ·rw [← HV.out]
     exact hn.setCell (a := ⟨w.heap.size + 1 + 1, 0, none⟩) (hn'.ne hz2) (.slice p n c)
    ·exact hbx3.bel.setCell (by simp; omega) _
end Go.Proofs.YtcbhgfiafamflaaGreatDoor
namespace Go.Proofs.YtcbhgfiafamflaaGreatDoor
open Go Go.RowKit Go.Proofs.YtcbhgfiafamflaaGreatDoor.Flow
def be (bs : List Nat) : Nat := le bs.reverse
theorem getD_rev {bs : List Nat} {k : Nat} (h : k < bs.length) : bs.reverse.getD k 0 = bs.getD (bs.length - 1 - k) 0 := by
 rw [List.getD_eq_getElem?_getD, List.getD_eq_getElem?_getD, List.getElem?_reverse h]
theorem shl_in {x r : Nat} (hx : x < 256) (hr : r < 4) :
  IntKind.u32.wrap ((x : Int) * 2 ^ (min (((r : Int) * 8).toNat) 32)) = ((x * B8 r : Nat) : Int) ∧ x * B8 r < 4294967296 := by
 have e1 : ((r : Int) * 8).toNat = 8 * r := by omega
 have e2 : min (8 * r) 32 = 8 * r := by omega
 have e3 : (2 : Int) ^ (8 * r) = ((B8 r : Nat) : Int) := by rw [B8_pow]; simp
 have h4 : x * B8 r < 4294967296 := by
  have h1 : B8 (r + 1) ≤ B8 4 := B8_mono (by omega)
  rw [B8_succ] at h1
  have h2 : x * B8 r < 256 * B8 r := (Nat.mul_lt_mul_right (B8_pos r)).2 hx
  have h3 : B8 4 = 4294967296 := rfl
  omega
 rw [e1, e2, e3, ← Int.natCast_mul]
 exact ⟨IntWalk.u32_in _ (by omega), h4⟩
theorem or_in {W x r : Nat} (hW : W < B8 r) (h4 : x * B8 r < 4294967296) (hr : r < 4) : bits BinOp.or IntKind.u32 (W : Int) ((x * B8 r : Nat) : Int) = ((W + x * B8 r : Nat) : Int) := by
 have hW4 : W < 4294967296 := by
  have h1 : B8 r ≤ B8 4 := B8_mono (by omega)
  have h3 : B8 4 = 4294967296 := rfl
  omega
 rw [u32_or_nat _ _ hW4 h4, Nat.or_comm]
 rw [nat_join (8 * r) (x * B8 r) W (by rw [← B8_pow]; exact Nat.mul_mod_left _ _) (by rw [← B8_pow]; exact hW), Nat.add_comm]
theorem fromBytes_calls (w : World) (p : Option Addr) (n c : Nat) (bs : List Nat) (h : RowIn w .u8 p n c bs) (hb8 : Bytes8 bs) (hn : n ≤ 128) :
  Calls Tryz.prog 53 #[.slice p n c] w fun e w' => ∃ q m d, e = .returned (.tuple #[.agg #[.slice q m d], .int .i64 0]) ∧ NatAt w' q m d (be bs) ∧ Below w.heap.size w w' ∧ New w.heap.size q := by
 have HL := Lib.hid h.len
 obtain ⟨m, hm1, hm2⟩ : ∃ m : Nat, n ≤ 4 * m ∧ 4 * m ≤ n + 3 := ⟨(n + 3) / 4, by omega, by omega⟩
 have hmk := make_u32i (i := ((n : Int) + 4 - 1) / 4) m (by omega) (by omega)
 go_enter Tryz.func53, Tryz.ntmps53
 go_wp2
 go_loopw [18] (fun i wr => ∃ k : Nat, k ≤ n ∧ i = .int .i64 k ∧ Box1 w wr (.slice none 0 0) ∧ w.heap.size + 1 < wr.heap.size ∧ Blk wr (w.heap.size + 1) 77 .u32 (wordsOf (le (bs.reverse.take k)) m)) (fun i _ => n - (intOf i).toNat)
 case atStart =>
  refine ⟨0, by omega, rfl, (Box1.mk1 _ _ _).alloc _, by simp, ?_⟩
  have := Blk.zeros (w.alloc (.cells #[.slice none 0 0] 33)) 77 .u32 m
  rw [List.take_zero, le, wordsOf_zero]
  simpa using this
 case round =>
  obtain ⟨k, hk, rfl, hbx, hsz, hblk⟩ := hrel
  by_cases hkn : k < n
  ·obtain ⟨b, off, rfl, hb, hc⟩ := (h.row (by omega)).pos (by omega)
   obtain ⟨j, hj⟩ : ∃ j, n - 1 - k = j := ⟨_, rfl⟩
   obtain ⟨x, hx⟩ : ∃ x, bs.getD j 0 = x := ⟨_, rfl⟩
   have hci : ∀ w', Box1 w w' (.slice none 0 0) → w'.cell? ⟨b, off + j, none⟩ = some (.int .u8 (x : Nat)) := fun w' hb' => by
    rw [(bcell hb'.bel).1 _ _ hb]
    exact hc j x (by rw [← hx, List.getD_eq_getElem?_getD]; simp [show j < bs.length by have := HL.out; omega])
   have hx8 : x < 256 := by rw [← hx]; exact hb8.get j
   have HJ := Lib.hid hj
   have HX := Lib.hid hx
   clear hc hj hx
   go_wp2
   obtain ⟨V, hV⟩ : ∃ V, le (bs.reverse.take k) = V := ⟨_, rfl⟩
   obtain ⟨q, hq⟩ : ∃ q, k / 4 = q := ⟨_, rfl⟩
   obtain ⟨r, hr⟩ : ∃ r, k % 4 = r := ⟨_, rfl⟩
   obtain ⟨d, hd⟩ : ∃ d, V / B32 q % 4294967296 = d := ⟨_, rfl⟩
   rw [hV] at hblk
   have hVlt : V < B8 k := by
    have := (hb8.reverse.take k).lt
    rw [hV] at this
    have hl : (bs.reverse.take k).length = k := by simp; have := HL.out; omega
    rwa [hl] at this
   have hor := wordsOf_or (n := m) hVlt hx8
   rw [hq, hr, hd] at hor
   obtain ⟨ho1, ho2, ho3⟩ := hor
   have hr4 : r < 4 := by omega
   obtain ⟨hs1, hs2⟩ := shl_in hx8 hr4
   have hs3 := or_in ho2 hs2 hr4
   have t1 : IntKind.i64.wrap ((k : Int) / 4) = (q : Int) := by rw [IntWalk.i64_in _ (by omega)]; omega
   have t2 : (k : Int).tmod 4 = (r : Int) := by rw [Int.tmod_eq_emod_of_nonneg (by omega)]; omega
   have ty : IntKind.u32.wrap (x : Int) = x := IntWalk.u32_in _ (by omega)
   have hs1' : IntKind.u32.wrap ((x : Int) * 2 ^ (((r : Int) * 8).toNat)) = (x : Int) * (B8 r : Nat) := by
    have e : min (((r : Int) * 8).toNat) 32 = ((r : Int) * 8).toNat := by omega
    rw [e] at hs1; rw [hs1, Int.natCast_mul]
   have hs3' : bits BinOp.or IntKind.u32 (d : Int) ((x : Int) * (B8 r : Nat)) = (d : Int) + (x : Int) * (B8 r : Nat) := by
    rw [← Int.natCast_mul, hs3, Int.natCast_add]
   have t3 : IntKind.i64.wrap ((r : Int) * 8) = (r : Int) * 8 := IntWalk.i64_in _ (by omega)
   have t4 : IntKind.i64.wrap ((n : Int) - 1) = (n : Int) - 1 := IntWalk.i64_in _ (by omega)
   have t5 : IntKind.i64.wrap ((n : Int) - 1 - k) = (j : Nat) := by
    rw [IntWalk.i64_in _ (by omega)]; have := HJ.out; omega
   have t6 : (j : Int) < n := by have := HJ.out; omega
   have t7 : (q : Int) < m := by omega
   have t9 : q < m := by omega
   refine wp_region_duties (by kernel_rfl) (by kernel_rfl)
    [some (.slice (some ⟨w.heap.size + 1, 0, none⟩) m m), some (.int .i64 k), some (.int .i64 (q : Nat)), some (.pointer (some ⟨w.heap.size + 1, q, none⟩)), some (.int .u32 (d : Nat)), some (.slice (some ⟨b, off, none⟩) n c), some (.slice (some ⟨b, off, none⟩) n c),
     some (.int .i64 n), some (.int .i64 ((n : Int) - 1)), some (.int .i64 k), some (.int .i64 (j : Nat)), some (.pointer (some ⟨b, off + j, none⟩)), some (.int .u8 (x : Nat)), some (.int .u32 (x : Nat)), some (.int .i64 k), some (.int .i64 (r : Nat)), some (.int .i64 ((r : Int) * 8)),
     some (.int .u32 (x * B8 r : Nat)), some (.int .u32 (d + x * B8 r : Nat)), some (.pointer (some ⟨w.heap.size + 1, q, none⟩)), none]
    [false, false, false, false, false, false, false, false, false, false, false, false, false, false, false, false, false, false, false, false, true] rfl
    (fun _ _ => True)
    (fun D w' => Box1 w w' (.slice none 0 0) ∧ w.heap.size + 1 < w'.heap.size ∧ Blk w' (w.heap.size + 1) 77 .u32 (if D 20 then wordsOf (V + B8 k * x) m else wordsOf V m))
    (fun _ _ _ => True)
    (fun _ _ _ _ h _ => h) ⟨hbx.below (Below.refl _ _).drew (Nat.le_refl _), hsz, hblk⟩ ?_ ?_
   ·simp only [Duties, Nat.reduceAdd]
    refine ⟨?_, ?_, ?_, ?_, ?_, ?_, ?_, ?_, ?_, ?_, ?_, ?_, ?_, ?_, ?_, ?_, ?_, ?_, ?_, ?_, ?_, trivial⟩
    case refine_5 =>
     intro D sp w' hD hW hdp ⟨hbx', hsz', hblk'⟩
     have h20 : D 20 = false := hW 20 (mq (by kernel_rfl))
     rw [h20] at hblk'
     simp only [Bool.false_eq_true, if_false] at hblk'
     have hcl : w'.cell? ⟨w.heap.size + 1, q, none⟩ = some (.int .u32 (d : Nat)) := hblk'.cell (by rw [wordsOf_get t9, hd])
     simp [asked, Region.wanted, Oper.gives, execOp, Act.eval, Act.put, go_sem, hcl]
    case refine_21 =>
     intro D sp w' hD hW hdp ⟨hbx', hsz', hblk'⟩
     rw [hD] at hblk'
     simp only [Bool.false_eq_true, if_false] at hblk'
     have hcl : w'.cell? ⟨w.heap.size + 1, q, none⟩ = some (.int .u32 (d : Nat)) := hblk'.cell (by rw [wordsOf_get t9, hd])
     have hfr := hblk'.free q
     (with_reducible refine asked_skip (w1 := w'.setCell ⟨w.heap.size + 1, q, none⟩ (.int .u32 (d + x * B8 r : Nat))) ?_ ?_ ?_)
     ·simp only [Region.wanted]
     ·simp [execOp, Act.eval, Act.put, go_sem, hcl, hfr]
     ·refine ⟨trivial, trivial, hbx'.below (B := w.heap.size + 1) ((Below.refl _ _).setCell (by simp) _) (Nat.le_refl _), by simpa using hsz', ?_⟩
      simp only [decide_true, Bool.or_true, if_true]
      rw [← ho1]
      exact hblk'.set _ _
    all_goals
     intro D sp w' hD hW hdp ⟨hbx', hsz', hblk'⟩
     have c1 := hci w' hbx'
     simp [asked, Region.wanted, Oper.gives, execOp, Act.eval, Act.put, go_sem, c1, t1, t2, t3, t4, t5, t6, t7, ty, hs1', hs3']
   ·intro sp w' hsp ⟨hbx', hsz', hblk'⟩
    have hblk2 : Blk w' (w.heap.size + 1) 77 .u32 (wordsOf (V + B8 k * x) m) := hblk'
    clear hblk' hsp
    have HV : Hid (le (bs.reverse.take (k + 1)) = V + B8 k * x) := by
     have e := le_take_succ bs.reverse k (by simp; have := HL.out; omega)
     rw [hV, getD_rev (by have := HL.out; omega), ← HL.out, HJ.out, HX.out] at e
     exact e
    clear hV hq hr hd t1 t2 t3 t4 t5 hs1 hs1' hs3 hs3' ty ho1
    simp only [frameOf, Nat.reduceAdd]
    go_simp
    go_wp2
    go_roundw
    case rel => exact ⟨k + 1, by omega, by go_num, hbx', hsz', by rw [HV.out]; exact hblk2⟩
    case measure => simp [intOf]; omega
  ·have hkn' : n ≤ k := by omega
   have hkl : k = bs.length := by have := HL.out; omega
   have hrow := hblk.row (n := m) (c := m) (by rw [wordsOf_length]) (Nat.le_refl _) (by omega)
   have hv : val (wordsOf (le (bs.reverse.take k)) m) = be bs := by
    rw [List.take_of_length_le (by simp; omega)]
    refine val_wordsOf_lt (Nat.lt_of_lt_of_le hb8.reverse.lt ?_)
    rw [← B8_four]
    exact B8_mono (by simp; omega)
   have HV := Lib.hid hv
   clear hv hkl
   go_wp2_with fail
   refine (trimmed_calls _ _ _ _ _ hrow (wordsOf_words _ _)).mono ?_
   rintro e w2 ⟨q, l, d, rfl, hn2, hb2, hp⟩
   have hbx2 := hbx.later hb2
   have c0 := hbx2.c0
   have f0 := hbx2.f0
   have hn' : New (w.heap.size + 1) q := by
    intro a ha
    rcases hp with rfl | rfl
    ·cases ha
    ·cases ha; simp
   go_wp2
   refine bodyPost_ret (v := .tuple #[.agg #[.slice q l d], .int .i64 0]) (by simp [results, Tryz.results53, go_sem, c0]) rfl ⟨q, l, d, rfl, ?_, ?_, hn'.mono (by omega)⟩
   ·have := hn2.setCell (a := ⟨w.heap.size, 0, none⟩) (hn'.ne (show w.heap.size < w.heap.size + 1 by omega)) (.slice q l d)
    rw [HV.out] at this
    exact this
   ·exact hbx2.bel.setCell (Nat.le_refl _) _
end Go.Proofs.YtcbhgfiafamflaaGreatDoor
namespace Go.Proofs.YtcbhgfiafamflaaGreatDoor
open Go Go.RowKit
structure Part where
 p : Option Addr
 n : Nat
 c : Nat
 bs : List Nat
structure PartOk (w : World) (P : Part) : Prop where
 row : RowIn w .u8 P.p P.n P.c P.bs
 bytes : Bytes8 P.bs
theorem PartOk.below {w w' : World} {P : Part} (h : PartOk w P) (hb : Below w.heap.size w w') : PartOk w' P := ⟨h.row.below hb, h.bytes⟩
def whole (L : List Part) : List Nat := L.flatMap (·.bs)
theorem whole_snoc (L : List Part) (P : Part) : whole (L ++ [P]) = whole L ++ P.bs := by simp [whole]
structure PartsIn (w : World) (p : Option Addr) (n c : Nat) (L : List Part) : Prop where
 len : n = L.length
 cap : n ≤ c
 max : c ≤ 9223372036854775807
 ok : ∀ (i : Nat) (P : Part), L[i]? = some P → PartOk w P
 cells : 0 < n → ∃ b off, p = some ⟨b, off, none⟩ ∧ b < w.heap.size ∧ ∀ (i : Nat) (P : Part), L[i]? = some P → w.cell? ⟨b, off + i, none⟩ = some (.slice P.p P.n P.c)
theorem PartsIn.below {w w' : World} {p : Option Addr} {n c : Nat} {L : List Part} (h : PartsIn w p n c L) (hb : Below w.heap.size w w') : PartsIn w' p n c L :=
 ⟨h.len, h.cap, h.max, fun i P hP => (h.ok i P hP).below hb, fun h0 => by
  obtain ⟨b, off, h1, h2, h3⟩ := h.cells h0
  exact ⟨b, off, h1, Nat.lt_of_lt_of_le h2 hb.size, fun i P hP => by rw [hb.cell (p := ⟨b, off + i, none⟩) h2]; exact h3 i P hP⟩⟩
theorem sum_calls (w : World) (p : Option Addr) (n c : Nat) (L : List Part) (hT : Tabs w) (hL : PartsIn w p n c L) : Calls Tryz.prog 162 #[.slice p n c] w (GivesSum (whole L) w) := by
 have HL : Hold (PartsIn w p n c L) := ⟨hL⟩
 have hlen : Hold (n = L.length) := ⟨hL.len⟩
 have hcap := hL.cap
 have hmax := hL.max
 clear hL
 go_enter Tryz.func162, Tryz.ntmps162
 go_wp2_with fail
 refine (shanew_calls w hT).mono ?_
 rintro e w1 ⟨g, rfl, hg, hb1, hh1⟩
 go_wp2
 go_loopw [9] (fun i wr => ∃ k : Nat, k ≤ n ∧ i = .int .i64 k ∧ Below w.heap.size w wr ∧ HashAt wr g (whole (L.take k))) (fun i _ => n - (intOf i).toNat)
 case atStart => exact ⟨0, by omega, rfl, hb1, hh1⟩
 case round =>
  obtain ⟨k, hk, rfl, hbel, hash⟩ := hrel
  have hTr := hT.below hbel hT.size
  have hsz := hT.size
  by_cases hkn : k < n
  ·obtain ⟨b, off, rfl, hb, hc⟩ := HL.out.cells (by omega)
   obtain ⟨P, hP⟩ : ∃ P, L[k]? = some P := ⟨_, List.getElem?_eq_getElem (by have := hlen.out; omega)⟩
   have hok := (HL.out.ok k P hP).below hbel
   have hblt : 0 < P.n → ∀ q, P.p = some q → q.block ≠ g := fun h0 q hq => by
    obtain ⟨b', off', e, h2, _⟩ := ((HL.out.ok k P hP).row.row h0).pos h0
    rw [hq] at e; cases e
    show b' ≠ g
    omega
   have hck : wr.cell? ⟨b, off + k, none⟩ = some (.slice P.p P.n P.c) := by
    rw [(bcell hbel).1 _ _ hb]; exact hc k P hP
   have htk : Hold (whole (L.take (k + 1)) = whole (L.take k) ++ P.bs) := ⟨by rw [List.take_add_one, hP]; exact whole_snoc _ _⟩
   have HOK : Hold (PartOk wr P) := ⟨hok⟩
   have HNE : Hold (0 < P.n → ∀ q, P.p = some q → q.block ≠ g) := ⟨hblt⟩
   clear hc hP hok hblt
   obtain ⟨pp, pn, pc, pb⟩ := P
   dsimp only at *
   go_wp2_with fail
   refine (shaadd_calls wr g _ pp pn pc pb hTr hash (by omega) HOK.out.row HOK.out.bytes HNE.out).mono ?_
   rintro e w2 ⟨rfl, hb2, hh2⟩
   rw [← htk.out] at hh2
   have hz : w.heap.size ≤ wr.heap.size := hbel.size
   have hbel2 := hbel.trans (hb2.below hg hz)
   go_wp2
   go_roundw
   case rel => exact ⟨k + 1, by omega, by go_num, hbel2, hh2⟩
   case measure => simp [intOf]; omega
  ·obtain rfl : k = n := by omega
   rw [List.take_of_length_le (by have := hlen.out; omega)] at hash
   have hz : w.heap.size ≤ wr.heap.size := hbel.size
   go_wp2_with fail
   refine (hsum_calls wr g _ hTr hash).mono ?_
   rintro e w3 ⟨q, rfl, hq, hb3, hk3⟩
   go_wp2
   go_ret
   exact ⟨q, rfl, by omega, hbel.trans (hb3.mono hz), hk3⟩
end Go.Proofs.YtcbhgfiafamflaaGreatDoor
namespace Go.Proofs.YtcbhgfiafamflaaGreatDoor
open Go Go.RowKit
def strOf (bs : List Nat) : ByteArray := strOfNums (bs.map fun (x : Nat) => (x : Int))
theorem convert_row {w : World} {p : Option Addr} {n c : Nat} {bs : List Nat} (h : Row w .u8 p n c bs) :
  (convert 23 9 (.slice p n c)).run Tryz.prog w = .ok (.string (strOf bs)) w := by
 rcases h.at_ with ⟨rfl, rfl, rfl⟩ | ⟨b, off, rfl, hb, hc⟩
 ·have hl := h.len
  have : bs = [] := List.eq_nil_of_length_eq_zero hl.symm
  subst this
  rw [run_convert_bytes_nil w 23 5 (by kernel_rfl) (by kernel_rfl) _ _ _ (by kernel_rfl)]
  rfl
 ·refine run_convert_bytes_arg w 23 5 (by kernel_rfl) (by kernel_rfl) b off n c _ (by simp [h.len]) ?_ _ (by kernel_rfl)
  intro i hi
  have hl := h.len
  rw [hc i (bs.getD i 0) (by rw [List.getD_eq_getElem?_getD]; simp [show i < bs.length by omega])]
  simp [List.getD_eq_getElem?_getD, show i < bs.length by omega]
theorem convert_empty (w : World) (p : Option Addr) (c : Nat) : (convert 23 9 (.slice p 0 c)).run Tryz.prog w = .ok (.string (strOf [])) w := by
 rw [run_convert_bytes_string w 23 9 5 p 0 c (by kernel_rfl) (by kernel_rfl) (by kernel_rfl)]
 cases p with
 | none => rfl
 | some a => rfl
theorem convert_in {w : World} {p : Option Addr} {n c : Nat} {bs : List Nat} (h : RowIn w .u8 p n c bs) :
  (convert 23 9 (.slice p n c)).run Tryz.prog w = .ok (.string (strOf bs)) w := by
 rcases Nat.eq_zero_or_pos n with rfl | h0
 ·have : bs = [] := List.eq_nil_of_length_eq_zero h.len.symm
  rw [this]
  exact convert_empty w p c
 ·exact convert_row (h.row h0)
end Go.Proofs.YtcbhgfiafamflaaGreatDoor
namespace Go.Proofs.YtcbhgfiafamflaaGreatDoor
open Go Go.RowKit
theorem whole2 (P Q : Part) : whole [P, Q] = P.bs ++ Q.bs := by simp [whole]
theorem parts2 (w : World) (P Q : Part) (hP : PartOk w P) (hQ : PartOk w Q) : PartsIn (w.alloc (.cells #[.slice P.p P.n P.c, .slice Q.p Q.n Q.c] 23)) (some ⟨w.heap.size, 0, none⟩) 2 2 [P, Q] := by
 have hb : Below w.heap.size w (w.alloc (.cells #[.slice P.p P.n P.c, .slice Q.p Q.n Q.c] 23)) := bal
 have hn := heap_alloc_new w (.cells #[.slice P.p P.n P.c, .slice Q.p Q.n Q.c] 23)
 refine ⟨rfl, Nat.le_refl _, by omega, fun i X hX => ?_, fun _ => ⟨w.heap.size, 0, rfl, by simp, fun i X hX => ?_⟩⟩
 ·match i, hX with
  | 0, h => cases h; exact hP.below hb
  | 1, h => cases h; exact hQ.below hb
 ·match i, hX with
  | 0, h => cases h; unfold World.cell?; dsimp only; rw [hn]; rfl
  | 1, h => cases h; unfold World.cell?; dsimp only; rw [hn]; rfl
theorem parts1 (w : World) (P : Part) (hP : PartOk w P) : PartsIn (w.alloc (.cells #[.slice P.p P.n P.c] 23)) (some ⟨w.heap.size, 0, none⟩) 1 1 [P] := by
 have hb : Below w.heap.size w (w.alloc (.cells #[.slice P.p P.n P.c] 23)) := bal
 have hn := heap_alloc_new w (.cells #[.slice P.p P.n P.c] 23)
 refine ⟨rfl, Nat.le_refl _, by omega, fun i X hX => ?_, fun _ => ⟨w.heap.size, 0, rfl, by simp, fun i X hX => ?_⟩⟩
 ·match i, hX with
  | 0, h => cases h; exact hP.below hb
 ·match i, hX with
  | 0, h => cases h; unfold World.cell?; dsimp only; rw [hn]; rfl
theorem whole_one (P : Part) : whole [P] = P.bs := by simp [whole]
theorem parts3 (w : World) (P Q R : Part) (hP : PartOk w P) (hQ : PartOk w Q) (hR : PartOk w R) : PartsIn (w.alloc (.cells #[.slice P.p P.n P.c, .slice Q.p Q.n Q.c, .slice R.p R.n R.c] 23)) (some ⟨w.heap.size, 0, none⟩) 3 3 [P, Q, R] := by
 have hb : Below w.heap.size w (w.alloc (.cells #[.slice P.p P.n P.c, .slice Q.p Q.n Q.c, .slice R.p R.n R.c] 23)) := bal
 have hn := heap_alloc_new w (.cells #[.slice P.p P.n P.c, .slice Q.p Q.n Q.c, .slice R.p R.n R.c] 23)
 refine ⟨rfl, Nat.le_refl _, by omega, fun i X hX => ?_, fun _ => ⟨w.heap.size, 0, rfl, by simp, fun i X hX => ?_⟩⟩
 ·match i, hX with
  | 0, h => cases h; exact hP.below hb
  | 1, h => cases h; exact hQ.below hb
  | 2, h => cases h; exact hR.below hb
 ·match i, hX with
  | 0, h => cases h; unfold World.cell?; dsimp only; rw [hn]; rfl
  | 1, h => cases h; unfold World.cell?; dsimp only; rw [hn]; rfl
  | 2, h => cases h; unfold World.cell?; dsimp only; rw [hn]; rfl
end Go.Proofs.YtcbhgfiafamflaaGreatDoor
namespace Go.Proofs.YtcbhgfiafamflaaGreatDoor
open Go Go.RowKit Go.Proofs.YtcbhgfiafamflaaGreatDoor.Flow
theorem same_calls (w : World) (p : Option Addr) (n c N : Nat) (q : Option Addr) (m d M : Nat) (hA : NatAt w p n c N) (hn : n < 1000000) (hN : blen N ≤ 1000000) (hB : BitsAt w q m d M) (hNM : N = M) :
  Calls Tryz.prog 11 #[.agg #[.slice p n c], .slice q m d] w fun e w' => e = .returned (.bool true) ∧ Below w.heap.size w w' := by
 subst hNM
 have hbx := Box1.mk1 w (.slice p n c) 33
 have hm : m = blen N := by have := hB.len; rwa [bitsOf_length] at this
 have hw7 : IntKind.i64.wrap ((m : Int) + 7) = (m : Int) + 7 := IntWalk.i64_in _ (by omega)
 have hbs : ((m : Int) + 7) / 8 = (bsize N : Nat) := by unfold bsize; omega
 have hw8 : IntKind.i64.wrap (((m : Int) + 7) / 8) = (bsize N : Nat) := by rw [← hbs]; exact IntWalk.i64_in _ (by omega)
 have hw9 : wrap64 (((m : Int) + 7).tdiv 8) = (bsize N : Nat) := by
  rw [Int.tdiv_eq_ediv_of_nonneg (by omega), ← hbs]; exact IntWalk.wrap64_in _ (by omega)
 have hb9 : bsize N ≤ 1000000 := by unfold bsize; omega
 clear hm hbs
 go_enter Tryz.func11, Tryz.ntmps11
 go_wp2_with fail
 refine (rbytes_calls _ q m d N (bsize N) (hB.below hbx.bel) hb9 (by omega)).mono ?_
 rintro e w1 ⟨v, rfl, hv, hb1⟩
 rw [if_pos (Nat.le_refl _)] at hv
 have hbx1 := hbx.later hb1
 go_wp2
 refine wp_region_duties (by kernel_rfl) (by kernel_rfl)
  [some (.agg #[.slice p n c]), none, some (.string (strOf (beOf N (bsize N)))), some v, some (.string (strOf (beOf N (bsize N)))), some (.bool true), some (.bool true)]
  [false, true, false, false, false, false, false] rfl
  (fun w1 w2 => Below w1.heap.size w1 w2)
  (fun _ w' => Box1 w w' (.slice p n c) ∧ BytesVal (beOf N (bsize N)) (w.heap.size + 1) v w')
  (fun _ v w' => BytesVal (beOf N (bsize N)) w.heap.size v w')
  ?_ ⟨hbx1.below (Below.refl _ _).drew (Nat.le_refl _), by simpa using hv.below (Below.refl _ _).drew⟩ ?_ ?_
 ·intro i v w1 w2 hf hb
  exact hf.below hb
 ·simp only [Duties, Nat.reduceAdd]
  refine ⟨?_, ?_, ?_, ?_, ?_, ?_, ?_, trivial⟩
  case refine_2 =>
   intro D sp w' hD hW hdp ⟨hbx', hv'⟩
   (with_reducible refine asked_call (w1 := w') (f := 47) (args := #[.agg #[.slice p n c]]) ?_ ?_ ?_)
   ·simp only [Region.wanted]
   ·simp [Act.eval, Act.put, go_sem]
   ·refine (least_calls w' p n c N (hA.below hbx'.bel) hn hN).mono ?_
    rintro e w2 ⟨v2, rfl, hv2, hb2⟩
    obtain ⟨q2, m2, d2, k1, k2, k3⟩ := hv2
    exact ⟨_, rfl, hb2, ⟨q2, m2, d2, k1, k2, k3.mono hbx'.bel.size⟩, hbx'.later hb2, hv'.below hb2⟩
  case refine_3 =>
   intro D sp w' hD hW hdp ⟨hbx', hv'⟩
   have h2 : ∃ q n d, sp 1 = .slice q n d ∧ Row w' .u8 q n d (beOf N (bsize N)) ∧ New w.heap.size q := (hdp 1 (mq (by kernel_rfl))).2
   (with_reducible refine Exists.elim h2 fun q2 hq2 => Exists.elim hq2 fun m2 hm2 => Exists.elim hm2 fun d2 hd2 => ?_)
   have k1 := hd2.1
   have k2 := convert_row hd2.2.1
   simp [asked, Region.wanted, Oper.gives, execOp, Act.eval, Act.put, go_sem, k1, k2]
  case refine_5 =>
   intro D sp w' hD hW hdp ⟨hbx', hv'⟩
   have hv2 : ∃ q n d, v = .slice q n d ∧ Row w' .u8 q n d (beOf N (bsize N)) ∧ New (w.heap.size + 1) q := hv'
   (with_reducible refine Exists.elim hv2 fun q2 hq2 => Exists.elim hq2 fun m2 hm2 => Exists.elim hm2 fun d2 hd2 => ?_)
   have k1 := hd2.1
   have k2 := convert_row hd2.2.1
   simp [asked, Region.wanted, Oper.gives, execOp, Act.eval, Act.put, go_sem, k1, k2]
  all_goals
   intro D sp w' hD hW hdp ⟨hbx', hv'⟩
   have c0 := hbx'.c0
   simp [asked, Region.wanted, Oper.gives, execOp, Act.eval, Act.put, go_sem, c0]
 ·intro sp w' hsp ⟨hbx', hv'⟩
  clear hsp hv hv'
  simp only [frameOf, Nat.reduceAdd]
  generalize sp 1 = u at *
  go_simp
  go_wp2
  go_ret
  exact ⟨rfl, hbx'.bel⟩
end Go.Proofs.YtcbhgfiafamflaaGreatDoor
namespace Go.Proofs.YtcbhgfiafamflaaGreatDoor
open Go Go.RowKit Go.Proofs.YtcbhgfiafamflaaGreatDoor.Flow
def Fit (e N : Nat) (v : Value) (w : World) : Prop := ∃ p n c, v = .agg #[.slice p n c] ∧ NatAt w p n c N ∧ N < B32 e
theorem Fit.below {e N : Nat} {v : Value} {w w' : World} (h : Fit e N v w) (hb : Below w.heap.size w w') : Fit e N v w' :=
 let ⟨p, n, c, h1, h2, h3⟩ := h
 ⟨p, n, c, h1, h2.below hb, h3⟩
theorem Fit.of {e N p n c} {w : World} (h : NatAt w p n c N) (hN : N < B32 e) : Fit e N (.agg #[.slice p n c]) w := ⟨p, n, c, rfl, h, hN⟩
theorem Fit.cast {e N M : Nat} {v : Value} {w : World} (h : Fit e N v w) (hN : N = M) : Fit e M v w := hN ▸ h
theorem Fit.lim {e N : Nat} {v : Value} {w : World} (h : Fit e N v w) : N < B32 e := let ⟨_, _, _, _, _, h3⟩ := h; h3
theorem lim_add {e f N M : Nat} (h : N < B32 e) (k : M < B32 f) : N + M < B32 (e + f + 1) := by
 have h1 : B32 e ≤ B32 (e + f) := B32_mono (by omega)
 have h2 : B32 f ≤ B32 (e + f) := B32_mono (by omega)
 rw [B32_succ]; omega
theorem lim_mul {e f N M : Nat} (h : N < B32 e) (k : M < B32 f) : N * M < B32 (e + f) := by
 rw [B32_add]
 exact Nat.mul_lt_mul'' h k
theorem add_fit {w : World} {v u : Value} {e f N M : Nat} (h : Fit e N v w) (k : Fit f M u w) (he : e ≤ 900000) (hf : f ≤ 900000) :
  Calls Tryz.prog 89 #[v, u] w fun en w' => ∃ x, en = .returned x ∧ Fit (e + f + 1) (N + M) x w' ∧ Below w.heap.size w w' := by
 obtain ⟨p, n, c, rfl, h1, h2⟩ := h
 obtain ⟨q, m, d, rfl, k1, k2⟩ := k
 have l1 := h1.len_le h2
 have l2 := k1.len_le k2
 refine (add_calls w p n c N q m d M h1 k1 (by omega) (by omega)).mono ?_
 rintro en w' ⟨r, l, g, rfl, hr, hb, _⟩
 exact ⟨_, rfl, Fit.of hr (lim_add h2 k2), hb⟩
theorem mul_fit {w : World} {v u : Value} {e f N M : Nat} (h : Fit e N v w) (k : Fit f M u w) (he : e ≤ 900000) (hf : f ≤ 900000) :
  Calls Tryz.prog 93 #[v, u] w fun en w' => ∃ x, en = .returned x ∧ Fit (e + f) (N * M) x w' ∧ Below w.heap.size w w' := by
 obtain ⟨p, n, c, rfl, h1, h2⟩ := h
 obtain ⟨q, m, d, rfl, k1, k2⟩ := k
 have l1 := h1.len_le h2
 have l2 := k1.len_le k2
 refine (mul_calls w p n c N q m d M h1 k1 (by omega) (by omega)).mono ?_
 rintro en w' ⟨r, l, g, rfl, hr, hb, _⟩
 exact ⟨_, rfl, Fit.of hr (lim_mul h2 k2), hb⟩
theorem cmp_fit {w : World} {v u : Value} {e f N M : Nat} (h : Fit e N v w) (k : Fit f M u w) (he : e ≤ 900000) (hf : f ≤ 900000) :
  Calls Tryz.prog 22 #[v, u] w fun en w' => ∃ x, en = .returned x ∧ x = .int .i64 (cmpI N M) ∧ Below w.heap.size w w' := by
 obtain ⟨p, n, c, rfl, h1, h2⟩ := h
 obtain ⟨q, m, d, rfl, k1, k2⟩ := k
 have l1 := h1.len_le h2
 have l2 := k1.len_le k2
 refine (cmp_calls w p q n c N m d M h1 k1 (by omega) (by omega)).mono ?_
 rintro en w' ⟨rfl, hb⟩
 exact ⟨_, rfl, rfl, hb⟩
theorem sub_fit {w : World} {v u : Value} {e f N M : Nat} (h : Fit e N v w) (k : Fit f M u w) (he : e ≤ 900000) (hf : f ≤ 900000) :
  Calls Tryz.prog 112 #[v, u] w fun en w' => ∃ x, en = .returned (.tuple #[x, .bool (decide (M ≤ N))]) ∧ Fit e (N - M) x w' ∧ Below w.heap.size w w' := by
 obtain ⟨p, n, c, rfl, h1, h2⟩ := h
 obtain ⟨q, m, d, rfl, k1, k2⟩ := k
 have l1 := h1.len_le h2
 have l2 := k1.len_le k2
 refine (sub_calls w p n c N q m d M h1 k1 (by omega) (by omega)).mono ?_
 rintro en w' ⟨r, l, g, rfl, hr, hb, _⟩
 exact ⟨_, rfl, Fit.of hr (by omega), hb⟩
theorem cmpI_self (N : Nat) : cmpI N N = 0 := by simp [cmpI]
structure Keep (B : Nat) (w w' : World) : Prop where
 bel : Below B w w'
 nat : ∀ p n c N, NatAt w p n c N → NatAt w' p n c N
theorem Keep.of {B : Nat} {w w' : World} (h : Below w.heap.size w w') (hB : B ≤ w.heap.size) : Keep B w w' := ⟨h.mono hB, fun _ _ _ _ k => k.below h⟩
theorem Fit.keep {e N B : Nat} {v : Value} {w w' : World} (h : Fit e N v w) (k : Keep B w w') : Fit e N v w' :=
 let ⟨p, n, c, h1, h2, h3⟩ := h
 ⟨p, n, c, h1, k.nat _ _ _ _ h2, h3⟩
def NatBox (w : World) (b : Nat) (u : Value) : Prop := w.heap[b]? = some (.cells #[u] 33 (0, 0))
theorem NatBox.below {w w' : World} {b B : Nat} {u : Value} (h : NatBox w b u) (hb : Below B w w') (hB : b < B) : NatBox w' b u := by
 unfold NatBox at *; rw [hb.block b hB]; exact h
theorem NatBox.cell {w : World} {b : Nat} {u : Value} (h : NatBox w b u) : w.cell? ⟨b, 0, none⟩ = some u := by
 unfold NatBox at h; simp [World.cell?, h]
theorem NatBox.free {w : World} {b : Nat} {u : Value} (h : NatBox w b u) : w.frozen? ⟨b, 0, none⟩ = false := by
 unfold NatBox at h; simp [World.frozen?, h]
theorem NatBox.lt {w : World} {b : Nat} {u : Value} (h : NatBox w b u) : b < w.heap.size := (Array.getElem?_eq_some_iff.1 h).1
theorem NatBox.set {w : World} {b : Nat} {u : Value} (h : NatBox w b u) (v : Value) : NatBox (w.setCell ⟨b, 0, none⟩ v) b v := by
 unfold NatBox at *
 simp [World.setCell, Array.getElem?_modify, h]
theorem NatBox.made (w : World) (u : Value) : NatBox (w.alloc (.cells #[u] 33)) w.heap.size u := by
 show (w.heap.push _)[w.heap.size]? = _
 simp
theorem NatAt.store {w : World} {p : Option Addr} {n c N b m d : Nat} {q : Option Addr} (h : NatAt w p n c N) (hb : NatBox w b (.slice q m d)) (v : Value) : NatAt (w.setCell ⟨b, 0, none⟩ v) p n c N := by
 obtain ⟨ws, r1, r2, r3, r4⟩ := h.ex
 rcases Nat.eq_zero_or_pos n with h0 | h0
 ·refine ⟨ws, ⟨r1.len, r1.cap, r1.max, ?_⟩, r2, r3, r4⟩
  rcases r1.at_ with k | ⟨b', off, k1, k2, _⟩
  ·exact .inl k
  ·refine .inr ⟨b', off, k1, by simpa using k2, fun i x hx => ?_⟩
   have : ws = [] := List.eq_nil_of_length_eq_zero (by rw [← r1.len]; exact h0)
   rw [this] at hx; cases hx
 ·refine h.setCell (a := ⟨b, 0, none⟩) ?_ v
  intro a ha hab
  obtain ⟨b', off, k1, k2, k3⟩ := r1.pos h0
  rw [k1] at ha; cases ha
  have hbb : b' = b := hab
  subst hbb
  have h1 := k3 0 (ws.getD 0 0) (by rw [List.getD_eq_getElem?_getD]; simp [show 0 < ws.length by rw [← r1.len]; exact h0])
  unfold NatBox at hb
  simp only [World.cell?, hb, Nat.add_zero] at h1
  cases off with
  | zero => simp at h1
  | succ k => simp at h1
theorem Keep.store {B : Nat} {w : World} {b m d : Nat} {q : Option Addr} (hb : NatBox w b (.slice q m d)) (hB : B ≤ b) (v : Value) : Keep B w (w.setCell ⟨b, 0, none⟩ v) :=
 ⟨(Below.refl _ _).setCell hB _, fun _ _ _ _ k => k.store hb v⟩
end Go.Proofs.YtcbhgfiafamflaaGreatDoor
