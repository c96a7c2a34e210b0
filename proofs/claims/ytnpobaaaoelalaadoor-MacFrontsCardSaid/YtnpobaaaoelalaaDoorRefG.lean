/- The document's tag. -/
import Derived.Test.YtnpobaaaoelalaaDoorRefM
import Derived.Laws.BitsAllLaws
namespace Go.Proofs.YtnpobaaaoelalaaDoor
open Go Go.RowKit Go.Proofs.YtnpobaaaoelalaaDoor.Flow

/-- In blocks apart. -/
structure Apart (u v : Value) : Prop where
  out : ∀ g, u.ownBlock = some g → v.ownBlock ≠ some g
theorem Apart.symm {u v : Value} (h : Apart u v) : Apart v u := ⟨fun g hg e => h.out g e hg⟩
theorem Apart.moved {u u' v : Value} {w : World} {B : Nat} {xs : List Nat} (h : Apart u v) (hm : Moved w u u') (hv : Own w B v xs) : Apart u' v := ⟨fun g hg e => by
  rcases hm with h1 | h1
  · exact h.out g (by rw [← h1]; exact hg) e
  · have := h1 g hg
    have := hv.lt g e
    omega⟩
theorem Own.grown {w w' : World} {B : Nat} {u v : Value} {xs : List Nat} (h : Own w B v xs) (hg : w.grownBy w' u.ownBlock) (ha : Apart u v) : Own w' B v xs := by
  refine ⟨⟨h.owns.1, ?_⟩⟩
  rcases h.owns.2 with h2 | ⟨g, cap, cur, rfl, hbg, hgb, h3⟩
  · exact .inl h2
  · refine .inr ⟨g, cap, cur, rfl, hbg, ?_, h3⟩
    rw [hg.block g (Array.getElem?_eq_some_iff.1 hgb).1 (fun e => ha.out g e.symm rfl)]; exact hgb

set_option maxHeartbeats 16000000 in
set_option maxRecDepth 100000 in
theorem reftag_calls (w : World) (p : Option Addr) (n c : Nat) (key : List Nat) (pb : Option Addr) (nb cb : Nat) (xb : List Nat) (hr : RowIn w .u8 p n c key) (h8 : Bytes8 key) (hz : p = none → c = 0) (hn : n ≤ 1000)
    (hX : PartOk w ⟨pb, nb, cb, xb⟩) (hzb : pb = none → cb = 0) (hnb : nb ≤ 5000) :
    Calls Tryd.prog 22 #[.slice p n c, .slice pb nb cb] w (GivesOwn (hmac key xb) w) := by
  have H8 : Hold (Bytes8 key) := ⟨h8⟩
  have HX : Hold (PartOk w ⟨pb, nb, cb, xb⟩) := ⟨hX⟩
  have HZb : Hold (pb = none → cb = 0) := ⟨hzb⟩
  have HK8 : Hold (Bytes8 (kblock key)) := ⟨kblock_bytes h8⟩
  by_cases hn64 : n ≤ 64
  · have hkk : kkey key = key := by unfold kkey; rw [if_neg (by have := hr.len; omega)]
    have HK : Hold (RowIn w .u8 p n c (kkey key)) := ⟨by rw [hkk]; exact hr⟩
    have HW : Hold (Below w.heap.size w w) := ⟨Below.refl _ _⟩
    clear hr h8 hX hzb hkk hz
    go_enter Tryd.func22, Tryd.ntmps22
    have HW2 : Hold (Below w.heap.size w ((w.alloc (.cells #[] 5)).alloc (.cells #[] 5))) := ⟨((Below.refl _ _).alloc (Nat.le_refl _) _).alloc (by simp) _⟩
    have HU0 : Hold (Own ((w.alloc (.cells #[] 5)).alloc (.cells #[] 5)) w.heap.size (.slice (some ⟨w.heap.size, 0, none⟩) 0 0) ((ipad key).take 0)) := ⟨((Own.lit w [] (by decide)).belowS ((Below.refl _ _).alloc (Nat.le_refl _) _))⟩
    have HV0 : Hold (Own ((w.alloc (.cells #[] 5)).alloc (.cells #[] 5)) w.heap.size (.slice (some ⟨w.heap.size + 1, 0, none⟩) 0 0) ((opad key).take 0)) := ⟨by
      have h := Own.lit (w.alloc (.cells #[] 5)) [] (by decide)
      rw [show (w.alloc (.cells #[] 5)).heap.size = w.heap.size + 1 by simp] at h
      exact h.mono (Nat.le_succ _)⟩
    have HA0 : Hold (Apart (.slice (some ⟨w.heap.size, 0, none⟩) 0 0) (.slice (some ⟨w.heap.size + 1, 0, none⟩) 0 0)) := ⟨⟨fun g hg e => by
      simp [Value.ownBlock] at hg e
      omega⟩⟩
    have HRd : Hold (∀ w', Below w.heap.size w w' → ∀ i, i < n → ∃ b off, p = some ⟨b, off, none⟩ ∧ w'.cell? ⟨b, off + i, none⟩ = some (.int .u8 ((kkey key).getD i 0 : Nat))) := ⟨fun w' hb i hi => by
      obtain ⟨b, off, e, hbl, hc⟩ := (HK.out.row (by omega)).pos (by omega)
      refine ⟨b, off, e, ?_⟩
      rw [(bcell hb).1 _ _ hbl]
      exact hc i _ (by rw [List.getD_eq_getElem?_getD, List.getElem?_eq_getElem (by have := HK.out.len; omega)]; rfl)⟩
    have hkcap := HK.out.cap
    have hkmax := HK.out.max
    have HKl : Hold (n = (kkey key).length) := ⟨HK.out.len⟩
    have HBd : Hold (Below w.heap.size w ((w.alloc (.cells #[] 5)).alloc (.cells #[] 5))) := ⟨((Below.refl _ _).alloc (Nat.le_refl _) _).alloc (by simp) _⟩
    go_wp2
    go_loopw [5, 6, 7] (fun x y i wr => ∃ (k : Nat) (u v : Value), k ≤ 64 ∧ u = x ∧ v = y ∧ i = .int .i64 k ∧ Hold (Own wr w.heap.size u ((ipad key).take k)) ∧ Hold (Own wr w.heap.size v ((opad key).take k)) ∧ Hold (Apart u v) ∧ Hold (Below w.heap.size w wr)) (fun _ _ i _ => 64 - (intOf i).toNat)
    case atStart => exact ⟨0, _, _, by omega, rfl, rfl, rfl, HU0, HV0, HA0, HW2⟩
    case round =>
      obtain ⟨k, u, v, hk, rfl, rfl, rfl, HU, HV, HAp, HB⟩ := hrel
      have hsz := HB.out.size
      by_cases hk64 : k < 64
      · have HEu : ∀ y : Nat, (kblock key).getD k 0 = y → Hold ((ipad key).take k ++ [y ^^^ 54] = (ipad key).take (k + 1)) := fun y hy => ⟨by
          rw [take_snoc_getD (ipad key) k (by rw [ipad_length]; exact hk64)]
          congr 1
          unfold ipad masked
          rw [List.getD_eq_getElem?_getD, List.getElem?_map, ← hy, List.getD_eq_getElem?_getD, List.getElem?_eq_getElem (by rw [kblock_length]; exact hk64)]
          rfl⟩
        have HEv : ∀ y : Nat, (kblock key).getD k 0 = y → Hold ((opad key).take k ++ [y ^^^ 92] = (opad key).take (k + 1)) := fun y hy => ⟨by
          rw [take_snoc_getD (opad key) k (by rw [opad_length]; exact hk64)]
          congr 1
          unfold opad masked
          rw [List.getD_eq_getElem?_getD, List.getElem?_map, ← hy, List.getD_eq_getElem?_getD, List.getElem?_eq_getElem (by rw [kblock_length]; exact hk64)]
          rfl⟩
        have hli : ((ipad key).take k).length ≤ 64 := by simp; omega
        have hlo : ((opad key).take k).length ≤ 64 := by simp; omega
        by_cases hkn : k < n
        · obtain ⟨b, off, hpe, hcell⟩ := HRd.out wr HB.out k hkn
          obtain ⟨y, hy⟩ : ∃ y, (kkey key).getD k 0 = y := ⟨_, rfl⟩
          have hyb : (kblock key).getD k 0 = y := by
            unfold kblock
            rw [← hy, List.getD_eq_getElem?_getD, List.getElem?_append_left (by have := HKl.out; omega), List.getD_eq_getElem?_getD]
          have hy8 : y < 256 := by rw [← hyb]; exact HK8.out.get k
          have HEu := HEu y hyb
          have HEv := HEv y hyb
          rw [hy] at hcell
          obtain ⟨a1, ha1⟩ : ∃ a, y ^^^ 54 = a := ⟨_, rfl⟩
          obtain ⟨a2, ha2⟩ : ∃ a, y ^^^ 92 = a := ⟨_, rfl⟩
          have F1 : bits BinOp.xor IntKind.u8 (y : Int) 54 = (a1 : Int) := by rw [← ha1]; exact u8_xor_nat y 54 hy8 (by omega)
          have F2 : bits BinOp.xor IntKind.u8 (y : Int) 92 = (a2 : Int) := by rw [← ha2]; exact u8_xor_nat y 92 hy8 (by omega)
          rw [ha1] at HEu
          rw [ha2] at HEv
          clear hy hyb ha1 ha2
          subst hpe
          have hb6 : Below wr.heap.size wr (wr.alloc (.cells #[.int .u8 a1] 5)) := (Below.refl _ _).alloc (Nat.le_refl _) _
          have HU3 : Hold (Own (wr.alloc (.cells #[.int .u8 a1] 5)) w.heap.size u ((ipad key).take k)) := ⟨HU.out.belowS hb6⟩
          have HV3 : Hold (Own (wr.alloc (.cells #[.int .u8 a1] 5)) w.heap.size v ((opad key).take k)) := ⟨HV.out.belowS hb6⟩
          have hrow : Hold (RowIn (wr.alloc (.cells #[.int .u8 a1] 5)) .u8 (some ⟨wr.heap.size, 0, none⟩) 1 1 [a1]) := ⟨lit_row wr [a1] (show 1 ≤ 9223372036854775807 by decide)⟩
          have hsz6 : w.heap.size ≤ (wr.alloc (.cells #[.int .u8 a1] 5)).heap.size := Nat.le_trans hsz hb6.size
          have HB6 : Hold (Below w.heap.size w (wr.alloc (.cells #[.int .u8 a1] 5))) := ⟨bstepS HB.out hb6⟩
          have hmx : Hold (((ipad key).take k).length + 1 ≤ 140737488355328) := ⟨by simp; omega⟩
          have hmy : Hold (((opad key).take k).length + 1 ≤ 140737488355328) := ⟨by simp; omega⟩
          clear hb6
          go_wp2_with (at_builtin; refine wpList_appF rfl _ _ rfl rfl HU3.out rfl hrow.out (fun h => by cases h) hmx.out hsz6 ?_; intro u3 w6 ho3 hg3 hmv3; refine Paused.out ?_)
          refine ⟨?_⟩
          rw [HEu.out] at ho3
          have HV4 : Hold _ := ⟨HV3.out.grown hg3 HAp.out⟩
          have HAp4 : Hold _ := ⟨HAp.out.moved hmv3 HV3.out⟩
          have HB7 : Hold _ := ⟨HB6.out.trans (grown_below hg3 hsz6 HU3.out.ge)⟩
          have HU4 : Hold _ := ⟨ho3⟩
          clear ho3 hg3 hmv3 HU3 HV3 hrow hsz6 HB6
          have hsz7 := HB7.out.size
          have hb8 : Below w6.heap.size w6 (w6.alloc (.cells #[.int .u8 a2] 5)) := (Below.refl _ _).alloc (Nat.le_refl _) _
          have HU5 : Hold (Own (w6.alloc (.cells #[.int .u8 a2] 5)) w.heap.size u3 ((ipad key).take (k + 1))) := ⟨HU4.out.belowS hb8⟩
          have HV5 : Hold (Own (w6.alloc (.cells #[.int .u8 a2] 5)) w.heap.size v ((opad key).take k)) := ⟨HV4.out.belowS hb8⟩
          have hrow : Hold (RowIn (w6.alloc (.cells #[.int .u8 a2] 5)) .u8 (some ⟨w6.heap.size, 0, none⟩) 1 1 [a2]) := ⟨lit_row w6 [a2] (show 1 ≤ 9223372036854775807 by decide)⟩
          have hsz8 : w.heap.size ≤ (w6.alloc (.cells #[.int .u8 a2] 5)).heap.size := Nat.le_trans hsz7 hb8.size
          have HB8 : Hold (Below w.heap.size w (w6.alloc (.cells #[.int .u8 a2] 5))) := ⟨bstepS HB7.out hb8⟩
          clear hb8 HU4 HV4 HB7
          go_wp2_with (at_builtin; refine wpList_appF rfl _ _ rfl rfl HV5.out rfl hrow.out (fun h => by cases h) hmy.out hsz8 ?_; intro v3 w9 ho3 hg3 hmv3; refine Paused.out ?_)
          refine ⟨?_⟩
          rw [HEv.out] at ho3
          have HU9 : Hold _ := ⟨HU5.out.grown hg3 HAp4.out.symm⟩
          have HAp9 : Hold _ := ⟨(HAp4.out.symm.moved hmv3 HU5.out).symm⟩
          have HB9 : Hold _ := ⟨HB8.out.trans (grown_below hg3 hsz8 HV5.out.ge)⟩
          have HV9 : Hold _ := ⟨ho3⟩
          clear ho3 hg3 hmv3 HU5 HV5 hrow hsz8 HB8
          go_wp2
          go_roundw
          case rel => exact ⟨k + 1, _, _, by omega, rfl, rfl, by go_num, HU9, HV9, HAp9, HB9⟩
          case measure => simp [intOf]; omega
        · have hyb : (kblock key).getD k 0 = 0 := by
            unfold kblock
            rw [List.getD_eq_getElem?_getD, List.getElem?_append_right (by have := HKl.out; omega), List.getElem?_replicate]
            split <;> rfl
          have HEu : Hold ((ipad key).take k ++ [54] = (ipad key).take (k + 1)) := HEu 0 hyb
          have HEv : Hold ((opad key).take k ++ [92] = (opad key).take (k + 1)) := HEv 0 hyb
          have F1 : bits BinOp.xor IntKind.u8 0 54 = 54 := by decide
          have F2 : bits BinOp.xor IntKind.u8 0 92 = 92 := by decide
          clear hyb
          have hb6 : Below wr.heap.size wr (wr.alloc (.cells #[.int .u8 54] 5)) := (Below.refl _ _).alloc (Nat.le_refl _) _
          have HU3 : Hold (Own (wr.alloc (.cells #[.int .u8 54] 5)) w.heap.size u ((ipad key).take k)) := ⟨HU.out.belowS hb6⟩
          have HV3 : Hold (Own (wr.alloc (.cells #[.int .u8 54] 5)) w.heap.size v ((opad key).take k)) := ⟨HV.out.belowS hb6⟩
          have hrow : Hold (RowIn (wr.alloc (.cells #[.int .u8 54] 5)) .u8 (some ⟨wr.heap.size, 0, none⟩) 1 1 [54]) := ⟨lit_row wr [54] (show 1 ≤ 9223372036854775807 by decide)⟩
          have hsz6 : w.heap.size ≤ (wr.alloc (.cells #[.int .u8 54] 5)).heap.size := Nat.le_trans hsz hb6.size
          have HB6 : Hold (Below w.heap.size w (wr.alloc (.cells #[.int .u8 54] 5))) := ⟨bstepS HB.out hb6⟩
          have hmx : Hold (((ipad key).take k).length + 1 ≤ 140737488355328) := ⟨by simp; omega⟩
          have hmy : Hold (((opad key).take k).length + 1 ≤ 140737488355328) := ⟨by simp; omega⟩
          clear hb6
          go_wp2_with (at_builtin; refine wpList_appF rfl _ _ rfl rfl HU3.out rfl hrow.out (fun h => by cases h) hmx.out hsz6 ?_; intro u3 w6 ho3 hg3 hmv3; refine Paused.out ?_)
          refine ⟨?_⟩
          rw [HEu.out] at ho3
          have HV4 : Hold _ := ⟨HV3.out.grown hg3 HAp.out⟩
          have HAp4 : Hold _ := ⟨HAp.out.moved hmv3 HV3.out⟩
          have HB7 : Hold _ := ⟨HB6.out.trans (grown_below hg3 hsz6 HU3.out.ge)⟩
          have HU4 : Hold _ := ⟨ho3⟩
          clear ho3 hg3 hmv3 HU3 HV3 hrow hsz6 HB6
          have hsz7 := HB7.out.size
          have hb8 : Below w6.heap.size w6 (w6.alloc (.cells #[.int .u8 92] 5)) := (Below.refl _ _).alloc (Nat.le_refl _) _
          have HU5 : Hold (Own (w6.alloc (.cells #[.int .u8 92] 5)) w.heap.size u3 ((ipad key).take (k + 1))) := ⟨HU4.out.belowS hb8⟩
          have HV5 : Hold (Own (w6.alloc (.cells #[.int .u8 92] 5)) w.heap.size v ((opad key).take k)) := ⟨HV4.out.belowS hb8⟩
          have hrow : Hold (RowIn (w6.alloc (.cells #[.int .u8 92] 5)) .u8 (some ⟨w6.heap.size, 0, none⟩) 1 1 [92]) := ⟨lit_row w6 [92] (show 1 ≤ 9223372036854775807 by decide)⟩
          have hsz8 : w.heap.size ≤ (w6.alloc (.cells #[.int .u8 92] 5)).heap.size := Nat.le_trans hsz7 hb8.size
          have HB8 : Hold (Below w.heap.size w (w6.alloc (.cells #[.int .u8 92] 5))) := ⟨bstepS HB7.out hb8⟩
          clear hb8 HU4 HV4 HB7
          go_wp2_with (at_builtin; refine wpList_appF rfl _ _ rfl rfl HV5.out rfl hrow.out (fun h => by cases h) hmy.out hsz8 ?_; intro v3 w9 ho3 hg3 hmv3; refine Paused.out ?_)
          refine ⟨?_⟩
          rw [HEv.out] at ho3
          have HU9 : Hold _ := ⟨HU5.out.grown hg3 HAp4.out.symm⟩
          have HAp9 : Hold _ := ⟨(HAp4.out.symm.moved hmv3 HU5.out).symm⟩
          have HB9 : Hold _ := ⟨HB8.out.trans (grown_below hg3 hsz8 HV5.out.ge)⟩
          have HV9 : Hold _ := ⟨ho3⟩
          clear ho3 hg3 hmv3 HU5 HV5 hrow hsz8 HB8
          go_wp2
          go_roundw
          case rel => exact ⟨k + 1, _, _, by omega, rfl, rfl, by go_num, HU9, HV9, HAp9, HB9⟩
          case measure => simp [intOf]; omega
      · obtain rfl : k = 64 := by omega
        have hiT : (ipad key).take 64 = ipad key := List.take_of_length_le (by rw [ipad_length]; exact Nat.le_refl _)
        have hoT : (opad key).take 64 = opad key := List.take_of_length_le (by rw [opad_length]; exact Nat.le_refl _)
        rw [hiT] at HU
        rw [hoT] at HV
        obtain ⟨pu, cu, rfl, ru, _, zu, _⟩ := HU.out.elim
        obtain ⟨pv, cv, rfl, rv, _, zv, _⟩ := HV.out.elim
        have HPu : Hold (PartOk wr ⟨pu, (ipad key).length, cu, ipad key⟩ ∧ (pu = none → cu = 0)) := ⟨⟨ru, ipad_bytes H8.out⟩, zu⟩
        have HPv : Hold (PartOk wr ⟨pv, (opad key).length, cv, opad key⟩ ∧ (pv = none → cv = 0)) := ⟨⟨rv, opad_bytes H8.out⟩, zv⟩
        have HBw : Hold (Below w.heap.size w wr) := ⟨HW.out.trans (HB.out.mono HW.out.size)⟩
        clear hiT hoT HU HV ru rv zu zv HB
        have HXb := HX.out.below HBw.out
        have HP1 : Hold _ := ⟨parts2 wr ⟨pu, (ipad key).length, cu, ipad key⟩ ⟨pb, nb, cb, xb⟩ HPu.out.1 HXb⟩
        have hba : Below wr.heap.size wr (wr.alloc (.cells #[.slice pu (ipad key).length cu, .slice pb nb cb] 25)) := (Below.refl _ _).alloc (Nat.le_refl _) _
        go_wp2_with fail
        refine (join_calls _ _ _ _ _ HP1.out (fun P hP => by
          rcases List.mem_cons.1 hP with rfl | hP
          · exact HPu.out.2
          · obtain rfl := List.mem_singleton.1 hP
            exact HZb.out) (by rw [whole2]; simp [ipad_length]; have := HX.out.row.len; dsimp only at this; omega)).mono ?_
        rintro e w5 ⟨v5, rfl, ho5, hb5⟩
        rw [whole2] at ho5
        have H85 : Bytes8 (ipad key ++ xb) := fun x hx => by
          rcases List.mem_append.1 hx with h | h
          · exact ipad_bytes H8.out x h
          · exact HX.out.bytes x h
        have hl5 : (ipad key ++ xb).length ≤ 10000 := by rw [List.length_append, ipad_length]; have := HX.out.row.len; dsimp only at this; omega
        obtain ⟨Y5, hY5⟩ : ∃ Y, ipad key ++ xb = Y := ⟨_, rfl⟩
        dsimp only at ho5
        rw [hY5] at ho5 H85 hl5
        have HY5 : Hold (ipad key ++ xb = Y5) := ⟨hY5⟩
        obtain ⟨p5, c5, _, r5, n5, z5, _⟩ := ho5
        have hb15 := bstepS hba hb5
        clear hY5 n5
        go_wp2_with fail
        refine (refsum_calls w5 p5 _ c5 Y5 r5 H85 z5 (by omega)).mono ?_
        rintro e w6 ⟨v6, rfl, ho6, hb6⟩
        obtain ⟨p6, c6, _, r6, n6, z6, _⟩ := ho6
        have hb16 := bstepS hb15 hb6
        have HP2 : Hold _ := ⟨parts2 w6 ⟨pv, (opad key).length, cv, opad key⟩ ⟨p6, (sha Y5).length, c6, sha Y5⟩ (HPv.out.1.below hb16) ⟨r6, sha_bytes _⟩⟩
        have hba6 : Below w6.heap.size w6 (w6.alloc (.cells #[.slice pv (opad key).length cv, .slice p6 (sha Y5).length c6] 25)) := (Below.refl _ _).alloc (Nat.le_refl _) _
        clear n6
        go_wp2_with fail
        refine (join_calls _ _ _ _ _ HP2.out (fun P hP => by
          rcases List.mem_cons.1 hP with rfl | hP
          · exact HPv.out.2
          · obtain rfl := List.mem_singleton.1 hP
            exact z6) (by rw [whole2]; simp [opad_length, sha_length])).mono ?_
        rintro e w7 ⟨v7, rfl, ho7, hb7⟩
        rw [whole2] at ho7
        have H87 : Bytes8 (opad key ++ sha Y5) := fun x hx => by
          rcases List.mem_append.1 hx with h | h
          · exact opad_bytes H8.out x h
          · exact sha_bytes _ x h
        have hl7 : (opad key ++ sha Y5).length ≤ 10000 := by rw [List.length_append, opad_length, sha_length]; omega
        obtain ⟨Y7, hY7⟩ : ∃ Y, opad key ++ sha Y5 = Y := ⟨_, rfl⟩
        dsimp only at ho7
        rw [hY7] at ho7 H87 hl7
        have HY7 : Hold (hmac key xb = sha Y7) := ⟨by rw [← hY7, ← HY5.out]; rfl⟩
        obtain ⟨p7, c7, _, r7, n7, z7, _⟩ := ho7
        have hbw7 := bstepS HBw.out (bstepS hb16 (bstepS hba6 hb7))
        clear hY7 n7
        go_wp2_with fail
        refine (refsum_calls w7 p7 _ c7 _ r7 H87 z7 (by omega)).mono ?_
        rintro e w8 ⟨v8, rfl, ho8, hb8⟩
        rw [← HY7.out] at ho8
        go_wp2
        go_ret
        refine ⟨v8, rfl, ?_, bstepS hbw7 hb8⟩
        cases ho8 with
        | of p8 c8 _ h8 hn8 hz8 hp8 => exact .of p8 c8 w8 h8 (hn8.mono hbw7.size) hz8 hp8
  · have hkk : kkey key = sha key := by unfold kkey; rw [if_pos (by have := hr.len; omega)]
    have hn64' : (64 : Int) < n := by omega
    go_enter Tryd.func22, Tryd.ntmps22
    go_wp2_with fail
    refine (refsum_calls w p n c key hr h8 hz (by omega)).mono ?_
    rintro e w1 ⟨v1, rfl, ho1, hb1⟩
    obtain ⟨p1, c1, _, r1, n1, z1, _⟩ := ho1
    rw [sha_length] at r1 ⊢
    have HK : Hold (RowIn w1 .u8 p1 32 c1 (kkey key)) := ⟨by rw [hkk]; exact r1⟩
    have HW : Hold (Below w.heap.size w w1) := ⟨hb1⟩
    clear hr h8 hX hzb hkk hz r1 n1 z1 hb1
    have HW2 : Hold (Below w1.heap.size w1 ((w1.alloc (.cells #[] 5)).alloc (.cells #[] 5))) := ⟨((Below.refl _ _).alloc (Nat.le_refl _) _).alloc (by simp) _⟩
    have HU0 : Hold (Own ((w1.alloc (.cells #[] 5)).alloc (.cells #[] 5)) w1.heap.size (.slice (some ⟨w1.heap.size, 0, none⟩) 0 0) ((ipad key).take 0)) := ⟨((Own.lit w1 [] (by decide)).belowS ((Below.refl _ _).alloc (Nat.le_refl _) _))⟩
    have HV0 : Hold (Own ((w1.alloc (.cells #[] 5)).alloc (.cells #[] 5)) w1.heap.size (.slice (some ⟨w1.heap.size + 1, 0, none⟩) 0 0) ((opad key).take 0)) := ⟨by
      have h := Own.lit (w1.alloc (.cells #[] 5)) [] (by decide)
      rw [show (w1.alloc (.cells #[] 5)).heap.size = w1.heap.size + 1 by simp] at h
      exact h.mono (Nat.le_succ _)⟩
    have HA0 : Hold (Apart (.slice (some ⟨w1.heap.size, 0, none⟩) 0 0) (.slice (some ⟨w1.heap.size + 1, 0, none⟩) 0 0)) := ⟨⟨fun g hg e => by
      simp [Value.ownBlock] at hg e
      omega⟩⟩
    have HRd : Hold (∀ w', Below w1.heap.size w1 w' → ∀ i, i < 32 → ∃ b off, p1 = some ⟨b, off, none⟩ ∧ w'.cell? ⟨b, off + i, none⟩ = some (.int .u8 ((kkey key).getD i 0 : Nat))) := ⟨fun w' hb i hi => by
      obtain ⟨b, off, e, hbl, hc⟩ := (HK.out.row (by omega)).pos (by omega)
      refine ⟨b, off, e, ?_⟩
      rw [(bcell hb).1 _ _ hbl]
      exact hc i _ (by rw [List.getD_eq_getElem?_getD, List.getElem?_eq_getElem (by have := HK.out.len; omega)]; rfl)⟩
    have hkcap := HK.out.cap
    have hkmax := HK.out.max
    have HKl : Hold (32 = (kkey key).length) := ⟨HK.out.len⟩
    have HBd : Hold (Below w1.heap.size w1 ((w1.alloc (.cells #[] 5)).alloc (.cells #[] 5))) := ⟨((Below.refl _ _).alloc (Nat.le_refl _) _).alloc (by simp) _⟩
    go_wp2
    go_loopw [5, 6, 7] (fun x y i wr => ∃ (k : Nat) (u v : Value), k ≤ 64 ∧ u = x ∧ v = y ∧ i = .int .i64 k ∧ Hold (Own wr w1.heap.size u ((ipad key).take k)) ∧ Hold (Own wr w1.heap.size v ((opad key).take k)) ∧ Hold (Apart u v) ∧ Hold (Below w1.heap.size w1 wr)) (fun _ _ i _ => 64 - (intOf i).toNat)
    case atStart => exact ⟨0, _, _, by omega, rfl, rfl, rfl, HU0, HV0, HA0, HW2⟩
    case round =>
      obtain ⟨k, u, v, hk, rfl, rfl, rfl, HU, HV, HAp, HB⟩ := hrel
      have hsz := HB.out.size
      by_cases hk64 : k < 64
      · have HEu : ∀ y : Nat, (kblock key).getD k 0 = y → Hold ((ipad key).take k ++ [y ^^^ 54] = (ipad key).take (k + 1)) := fun y hy => ⟨by
          rw [take_snoc_getD (ipad key) k (by rw [ipad_length]; exact hk64)]
          congr 1
          unfold ipad masked
          rw [List.getD_eq_getElem?_getD, List.getElem?_map, ← hy, List.getD_eq_getElem?_getD, List.getElem?_eq_getElem (by rw [kblock_length]; exact hk64)]
          rfl⟩
        have HEv : ∀ y : Nat, (kblock key).getD k 0 = y → Hold ((opad key).take k ++ [y ^^^ 92] = (opad key).take (k + 1)) := fun y hy => ⟨by
          rw [take_snoc_getD (opad key) k (by rw [opad_length]; exact hk64)]
          congr 1
          unfold opad masked
          rw [List.getD_eq_getElem?_getD, List.getElem?_map, ← hy, List.getD_eq_getElem?_getD, List.getElem?_eq_getElem (by rw [kblock_length]; exact hk64)]
          rfl⟩
        have hli : ((ipad key).take k).length ≤ 64 := by simp; omega
        have hlo : ((opad key).take k).length ≤ 64 := by simp; omega
        by_cases hkn : k < 32
        · obtain ⟨b, off, hpe, hcell⟩ := HRd.out wr HB.out k hkn
          obtain ⟨y, hy⟩ : ∃ y, (kkey key).getD k 0 = y := ⟨_, rfl⟩
          have hyb : (kblock key).getD k 0 = y := by
            unfold kblock
            rw [← hy, List.getD_eq_getElem?_getD, List.getElem?_append_left (by have := HKl.out; omega), List.getD_eq_getElem?_getD]
          have hy8 : y < 256 := by rw [← hyb]; exact HK8.out.get k
          have HEu := HEu y hyb
          have HEv := HEv y hyb
          rw [hy] at hcell
          obtain ⟨a1, ha1⟩ : ∃ a, y ^^^ 54 = a := ⟨_, rfl⟩
          obtain ⟨a2, ha2⟩ : ∃ a, y ^^^ 92 = a := ⟨_, rfl⟩
          have F1 : bits BinOp.xor IntKind.u8 (y : Int) 54 = (a1 : Int) := by rw [← ha1]; exact u8_xor_nat y 54 hy8 (by omega)
          have F2 : bits BinOp.xor IntKind.u8 (y : Int) 92 = (a2 : Int) := by rw [← ha2]; exact u8_xor_nat y 92 hy8 (by omega)
          rw [ha1] at HEu
          rw [ha2] at HEv
          clear hy hyb ha1 ha2
          subst hpe
          have hb6 : Below wr.heap.size wr (wr.alloc (.cells #[.int .u8 a1] 5)) := (Below.refl _ _).alloc (Nat.le_refl _) _
          have HU3 : Hold (Own (wr.alloc (.cells #[.int .u8 a1] 5)) w1.heap.size u ((ipad key).take k)) := ⟨HU.out.belowS hb6⟩
          have HV3 : Hold (Own (wr.alloc (.cells #[.int .u8 a1] 5)) w1.heap.size v ((opad key).take k)) := ⟨HV.out.belowS hb6⟩
          have hrow : Hold (RowIn (wr.alloc (.cells #[.int .u8 a1] 5)) .u8 (some ⟨wr.heap.size, 0, none⟩) 1 1 [a1]) := ⟨lit_row wr [a1] (show 1 ≤ 9223372036854775807 by decide)⟩
          have hsz6 : w1.heap.size ≤ (wr.alloc (.cells #[.int .u8 a1] 5)).heap.size := Nat.le_trans hsz hb6.size
          have HB6 : Hold (Below w1.heap.size w1 (wr.alloc (.cells #[.int .u8 a1] 5))) := ⟨bstepS HB.out hb6⟩
          have hmx : Hold (((ipad key).take k).length + 1 ≤ 140737488355328) := ⟨by simp; omega⟩
          have hmy : Hold (((opad key).take k).length + 1 ≤ 140737488355328) := ⟨by simp; omega⟩
          clear hb6
          go_wp2_with (at_builtin; refine wpList_appF rfl _ _ rfl rfl HU3.out rfl hrow.out (fun h => by cases h) hmx.out hsz6 ?_; intro u3 w6 ho3 hg3 hmv3; refine Paused.out ?_)
          refine ⟨?_⟩
          rw [HEu.out] at ho3
          have HV4 : Hold _ := ⟨HV3.out.grown hg3 HAp.out⟩
          have HAp4 : Hold _ := ⟨HAp.out.moved hmv3 HV3.out⟩
          have HB7 : Hold _ := ⟨HB6.out.trans (grown_below hg3 hsz6 HU3.out.ge)⟩
          have HU4 : Hold _ := ⟨ho3⟩
          clear ho3 hg3 hmv3 HU3 HV3 hrow hsz6 HB6
          have hsz7 := HB7.out.size
          have hb8 : Below w6.heap.size w6 (w6.alloc (.cells #[.int .u8 a2] 5)) := (Below.refl _ _).alloc (Nat.le_refl _) _
          have HU5 : Hold (Own (w6.alloc (.cells #[.int .u8 a2] 5)) w1.heap.size u3 ((ipad key).take (k + 1))) := ⟨HU4.out.belowS hb8⟩
          have HV5 : Hold (Own (w6.alloc (.cells #[.int .u8 a2] 5)) w1.heap.size v ((opad key).take k)) := ⟨HV4.out.belowS hb8⟩
          have hrow : Hold (RowIn (w6.alloc (.cells #[.int .u8 a2] 5)) .u8 (some ⟨w6.heap.size, 0, none⟩) 1 1 [a2]) := ⟨lit_row w6 [a2] (show 1 ≤ 9223372036854775807 by decide)⟩
          have hsz8 : w1.heap.size ≤ (w6.alloc (.cells #[.int .u8 a2] 5)).heap.size := Nat.le_trans hsz7 hb8.size
          have HB8 : Hold (Below w1.heap.size w1 (w6.alloc (.cells #[.int .u8 a2] 5))) := ⟨bstepS HB7.out hb8⟩
          clear hb8 HU4 HV4 HB7
          go_wp2_with (at_builtin; refine wpList_appF rfl _ _ rfl rfl HV5.out rfl hrow.out (fun h => by cases h) hmy.out hsz8 ?_; intro v3 w9 ho3 hg3 hmv3; refine Paused.out ?_)
          refine ⟨?_⟩
          rw [HEv.out] at ho3
          have HU9 : Hold _ := ⟨HU5.out.grown hg3 HAp4.out.symm⟩
          have HAp9 : Hold _ := ⟨(HAp4.out.symm.moved hmv3 HU5.out).symm⟩
          have HB9 : Hold _ := ⟨HB8.out.trans (grown_below hg3 hsz8 HV5.out.ge)⟩
          have HV9 : Hold _ := ⟨ho3⟩
          clear ho3 hg3 hmv3 HU5 HV5 hrow hsz8 HB8
          go_wp2
          go_roundw
          case rel => exact ⟨k + 1, _, _, by omega, rfl, rfl, by go_num, HU9, HV9, HAp9, HB9⟩
          case measure => simp [intOf]; omega
        · have hyb : (kblock key).getD k 0 = 0 := by
            unfold kblock
            rw [List.getD_eq_getElem?_getD, List.getElem?_append_right (by have := HKl.out; omega), List.getElem?_replicate]
            split <;> rfl
          have HEu : Hold ((ipad key).take k ++ [54] = (ipad key).take (k + 1)) := HEu 0 hyb
          have HEv : Hold ((opad key).take k ++ [92] = (opad key).take (k + 1)) := HEv 0 hyb
          have F1 : bits BinOp.xor IntKind.u8 0 54 = 54 := by decide
          have F2 : bits BinOp.xor IntKind.u8 0 92 = 92 := by decide
          clear hyb
          have hb6 : Below wr.heap.size wr (wr.alloc (.cells #[.int .u8 54] 5)) := (Below.refl _ _).alloc (Nat.le_refl _) _
          have HU3 : Hold (Own (wr.alloc (.cells #[.int .u8 54] 5)) w1.heap.size u ((ipad key).take k)) := ⟨HU.out.belowS hb6⟩
          have HV3 : Hold (Own (wr.alloc (.cells #[.int .u8 54] 5)) w1.heap.size v ((opad key).take k)) := ⟨HV.out.belowS hb6⟩
          have hrow : Hold (RowIn (wr.alloc (.cells #[.int .u8 54] 5)) .u8 (some ⟨wr.heap.size, 0, none⟩) 1 1 [54]) := ⟨lit_row wr [54] (show 1 ≤ 9223372036854775807 by decide)⟩
          have hsz6 : w1.heap.size ≤ (wr.alloc (.cells #[.int .u8 54] 5)).heap.size := Nat.le_trans hsz hb6.size
          have HB6 : Hold (Below w1.heap.size w1 (wr.alloc (.cells #[.int .u8 54] 5))) := ⟨bstepS HB.out hb6⟩
          have hmx : Hold (((ipad key).take k).length + 1 ≤ 140737488355328) := ⟨by simp; omega⟩
          have hmy : Hold (((opad key).take k).length + 1 ≤ 140737488355328) := ⟨by simp; omega⟩
          clear hb6
          go_wp2_with (at_builtin; refine wpList_appF rfl _ _ rfl rfl HU3.out rfl hrow.out (fun h => by cases h) hmx.out hsz6 ?_; intro u3 w6 ho3 hg3 hmv3; refine Paused.out ?_)
          refine ⟨?_⟩
          rw [HEu.out] at ho3
          have HV4 : Hold _ := ⟨HV3.out.grown hg3 HAp.out⟩
          have HAp4 : Hold _ := ⟨HAp.out.moved hmv3 HV3.out⟩
          have HB7 : Hold _ := ⟨HB6.out.trans (grown_below hg3 hsz6 HU3.out.ge)⟩
          have HU4 : Hold _ := ⟨ho3⟩
          clear ho3 hg3 hmv3 HU3 HV3 hrow hsz6 HB6
          have hsz7 := HB7.out.size
          have hb8 : Below w6.heap.size w6 (w6.alloc (.cells #[.int .u8 92] 5)) := (Below.refl _ _).alloc (Nat.le_refl _) _
          have HU5 : Hold (Own (w6.alloc (.cells #[.int .u8 92] 5)) w1.heap.size u3 ((ipad key).take (k + 1))) := ⟨HU4.out.belowS hb8⟩
          have HV5 : Hold (Own (w6.alloc (.cells #[.int .u8 92] 5)) w1.heap.size v ((opad key).take k)) := ⟨HV4.out.belowS hb8⟩
          have hrow : Hold (RowIn (w6.alloc (.cells #[.int .u8 92] 5)) .u8 (some ⟨w6.heap.size, 0, none⟩) 1 1 [92]) := ⟨lit_row w6 [92] (show 1 ≤ 9223372036854775807 by decide)⟩
          have hsz8 : w1.heap.size ≤ (w6.alloc (.cells #[.int .u8 92] 5)).heap.size := Nat.le_trans hsz7 hb8.size
          have HB8 : Hold (Below w1.heap.size w1 (w6.alloc (.cells #[.int .u8 92] 5))) := ⟨bstepS HB7.out hb8⟩
          clear hb8 HU4 HV4 HB7
          go_wp2_with (at_builtin; refine wpList_appF rfl _ _ rfl rfl HV5.out rfl hrow.out (fun h => by cases h) hmy.out hsz8 ?_; intro v3 w9 ho3 hg3 hmv3; refine Paused.out ?_)
          refine ⟨?_⟩
          rw [HEv.out] at ho3
          have HU9 : Hold _ := ⟨HU5.out.grown hg3 HAp4.out.symm⟩
          have HAp9 : Hold _ := ⟨(HAp4.out.symm.moved hmv3 HU5.out).symm⟩
          have HB9 : Hold _ := ⟨HB8.out.trans (grown_below hg3 hsz8 HV5.out.ge)⟩
          have HV9 : Hold _ := ⟨ho3⟩
          clear ho3 hg3 hmv3 HU5 HV5 hrow hsz8 HB8
          go_wp2
          go_roundw
          case rel => exact ⟨k + 1, _, _, by omega, rfl, rfl, by go_num, HU9, HV9, HAp9, HB9⟩
          case measure => simp [intOf]; omega
      · obtain rfl : k = 64 := by omega
        have hiT : (ipad key).take 64 = ipad key := List.take_of_length_le (by rw [ipad_length]; exact Nat.le_refl _)
        have hoT : (opad key).take 64 = opad key := List.take_of_length_le (by rw [opad_length]; exact Nat.le_refl _)
        rw [hiT] at HU
        rw [hoT] at HV
        obtain ⟨pu, cu, rfl, ru, _, zu, _⟩ := HU.out.elim
        obtain ⟨pv, cv, rfl, rv, _, zv, _⟩ := HV.out.elim
        have HPu : Hold (PartOk wr ⟨pu, (ipad key).length, cu, ipad key⟩ ∧ (pu = none → cu = 0)) := ⟨⟨ru, ipad_bytes H8.out⟩, zu⟩
        have HPv : Hold (PartOk wr ⟨pv, (opad key).length, cv, opad key⟩ ∧ (pv = none → cv = 0)) := ⟨⟨rv, opad_bytes H8.out⟩, zv⟩
        have HBw : Hold (Below w.heap.size w wr) := ⟨HW.out.trans (HB.out.mono HW.out.size)⟩
        clear hiT hoT HU HV ru rv zu zv HB
        have HXb := HX.out.below HBw.out
        have HP1 : Hold _ := ⟨parts2 wr ⟨pu, (ipad key).length, cu, ipad key⟩ ⟨pb, nb, cb, xb⟩ HPu.out.1 HXb⟩
        have hba : Below wr.heap.size wr (wr.alloc (.cells #[.slice pu (ipad key).length cu, .slice pb nb cb] 25)) := (Below.refl _ _).alloc (Nat.le_refl _) _
        go_wp2_with fail
        refine (join_calls _ _ _ _ _ HP1.out (fun P hP => by
          rcases List.mem_cons.1 hP with rfl | hP
          · exact HPu.out.2
          · obtain rfl := List.mem_singleton.1 hP
            exact HZb.out) (by rw [whole2]; simp [ipad_length]; have := HX.out.row.len; dsimp only at this; omega)).mono ?_
        rintro e w5 ⟨v5, rfl, ho5, hb5⟩
        rw [whole2] at ho5
        have H85 : Bytes8 (ipad key ++ xb) := fun x hx => by
          rcases List.mem_append.1 hx with h | h
          · exact ipad_bytes H8.out x h
          · exact HX.out.bytes x h
        have hl5 : (ipad key ++ xb).length ≤ 10000 := by rw [List.length_append, ipad_length]; have := HX.out.row.len; dsimp only at this; omega
        obtain ⟨Y5, hY5⟩ : ∃ Y, ipad key ++ xb = Y := ⟨_, rfl⟩
        dsimp only at ho5
        rw [hY5] at ho5 H85 hl5
        have HY5 : Hold (ipad key ++ xb = Y5) := ⟨hY5⟩
        obtain ⟨p5, c5, _, r5, n5, z5, _⟩ := ho5
        have hb15 := bstepS hba hb5
        clear hY5 n5
        go_wp2_with fail
        refine (refsum_calls w5 p5 _ c5 Y5 r5 H85 z5 (by omega)).mono ?_
        rintro e w6 ⟨v6, rfl, ho6, hb6⟩
        obtain ⟨p6, c6, _, r6, n6, z6, _⟩ := ho6
        have hb16 := bstepS hb15 hb6
        have HP2 : Hold _ := ⟨parts2 w6 ⟨pv, (opad key).length, cv, opad key⟩ ⟨p6, (sha Y5).length, c6, sha Y5⟩ (HPv.out.1.below hb16) ⟨r6, sha_bytes _⟩⟩
        have hba6 : Below w6.heap.size w6 (w6.alloc (.cells #[.slice pv (opad key).length cv, .slice p6 (sha Y5).length c6] 25)) := (Below.refl _ _).alloc (Nat.le_refl _) _
        clear n6
        go_wp2_with fail
        refine (join_calls _ _ _ _ _ HP2.out (fun P hP => by
          rcases List.mem_cons.1 hP with rfl | hP
          · exact HPv.out.2
          · obtain rfl := List.mem_singleton.1 hP
            exact z6) (by rw [whole2]; simp [opad_length, sha_length])).mono ?_
        rintro e w7 ⟨v7, rfl, ho7, hb7⟩
        rw [whole2] at ho7
        have H87 : Bytes8 (opad key ++ sha Y5) := fun x hx => by
          rcases List.mem_append.1 hx with h | h
          · exact opad_bytes H8.out x h
          · exact sha_bytes _ x h
        have hl7 : (opad key ++ sha Y5).length ≤ 10000 := by rw [List.length_append, opad_length, sha_length]; omega
        obtain ⟨Y7, hY7⟩ : ∃ Y, opad key ++ sha Y5 = Y := ⟨_, rfl⟩
        dsimp only at ho7
        rw [hY7] at ho7 H87 hl7
        have HY7 : Hold (hmac key xb = sha Y7) := ⟨by rw [← hY7, ← HY5.out]; rfl⟩
        obtain ⟨p7, c7, _, r7, n7, z7, _⟩ := ho7
        have hbw7 := bstepS HBw.out (bstepS hb16 (bstepS hba6 hb7))
        clear hY7 n7
        go_wp2_with fail
        refine (refsum_calls w7 p7 _ c7 _ r7 H87 z7 (by omega)).mono ?_
        rintro e w8 ⟨v8, rfl, ho8, hb8⟩
        rw [← HY7.out] at ho8
        go_wp2
        go_ret
        refine ⟨v8, rfl, ?_, bstepS hbw7 hb8⟩
        cases ho8 with
        | of p8 c8 _ h8 hn8 hz8 hp8 => exact .of p8 c8 w8 h8 (hn8.mono hbw7.size) hz8 hp8
end Go.Proofs.YtnpobaaaoelalaaDoor
