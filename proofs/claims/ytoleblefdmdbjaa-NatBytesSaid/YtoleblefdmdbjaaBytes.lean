/- The law of bytes. -/
import Derived.Test.YtoleblefdmdbjaaBytesA
namespace Go.Proofs.Ytoleblefdmdbjaa
open Go Go.RowKit Go.Proofs.Ytoleblefdmdbjaa.Flow

set_option maxHeartbeats 8000000 in
set_option maxRecDepth 1000000 in
theorem bytes_law (w : World) (px : Option Addr) (n cx : Nat) (X : List Nat) (size : Int)
    (hX : RowIn w .u8 px n cx X) (hX8 : Bytes8 X) (hnil : px = none → cx = 0) (hp : ∀ a, px = some a → ∀ i x, X[i]? = some x → w.cell? (a.add i) = some (.int .u8 (x : Nat))) (hs0 : -9223372036854775808 ≤ size) (hs1 : size ≤ 9223372036854775807) :
    Calls Try.prog 3 #[.slice px n cx, .int .i64 size] w (Yes w) := by
  have hcap := hX.cap
  have hmax := hX.max
  by_cases hbig : 1000 < size
  · go_enter Try.func3, Try.ntmps3
    go_wp2_with fail
    refine (lives_calls _).mono ?_
    rintro e w1 ⟨rfl, hbw⟩
    go_wp2_with fail
    refine (lives_calls _).mono ?_
    rintro e w2 ⟨rfl, hb⟩
    go_wp2
    go_ret
    exact ⟨rfl, bstep hbw hb⟩
  by_cases hlong : 1000 < n
  · go_enter Try.func3, Try.ntmps3
    go_wp2_with fail
    refine (lives_calls _).mono ?_
    rintro e w1 ⟨rfl, hbw⟩
    go_wp2_with fail
    refine (lives_calls _).mono ?_
    rintro e w2 ⟨rfl, hb⟩
    go_wp2
    go_ret
    exact ⟨rfl, bstep hbw hb⟩
  have hlong' : ¬ (1000 : Int) < n := by omega
  obtain ⟨i0, hi, hz0, hz1, hz2⟩ := info_parts Try.info_u8
  cases px with
  | none =>
    have hcx := hnil rfl
    have hn0 : n = 0 := by
      rcases Nat.eq_zero_or_pos n with h0 | h0
      · exact h0
      · obtain ⟨b, off, h1, _⟩ := (hX.row h0).pos h0
        cases h1
    subst hcx
    subst hn0
    have hXn : X = [] := List.eq_nil_of_length_eq_zero hX.len.symm
    clear hnil hp
    go_enter Try.func3, Try.ntmps3
    go_wp2_with fail
    refine (lives_calls _).mono ?_
    rintro e w1 ⟨rfl, hbw⟩
    have hown := World.ownsRow_made w1 (base := w.heap.size) (e := 5) (size := 1) #[] 0 hbw.size (by simp [maxLen]) (by simp)
    replace hbw : Below w.heap.size w (w1.alloc (.cells #[] 5)) := hbw.alloc hbw.size _
    have HXN := Lib.hid hXn
    clear hXn
    go_wp2_with (at_builtin; refine wpList_append_own_none rfl _ _ 22 rfl w.heap.size 5 i0 1 Try.underlying22 hi _ _ _ rfl hown rfl ?_)
    obtain ⟨w2, hw2⟩ : ∃ w2, w1.alloc (.cells #[] 5) = w2 := ⟨_, rfl⟩
    obtain ⟨g, hg⟩ : ∃ g, w1.heap.size = g := ⟨_, rfl⟩
    have ho : w2.ownsRow w.heap.size 5 1 (.slice (some ⟨g, 0, none⟩) 0 0) 0 (X.map fun (x : Nat) => Value.int .u8 x) := by
      rw [HXN.out, ← hw2, ← hg]; exact hown
    have hgb : w.heap.size ≤ g := by rw [← hg]; have := hbw.size; rcases ho.2 with ⟨h1, _⟩ | ⟨g', cap', cur, h1, h2, _⟩
                                     · cases h1
                                     · cases h1; rw [hg]; exact h2
    have hgl : g < w2.heap.size := by rw [← hw2, ← hg]; simp
    rw [hw2] at hbw
    rw [hw2, hg]
    clear hw2 hg hown
    have hrowO : Row w2 .u8 (some ⟨g, 0, none⟩) 0 0 X := by
      obtain ⟨q, d, hq, hrow, _⟩ := Row.of_owns ho
      cases hq; exact hrow
    have hcap2 := hrowO.cap
    have hmax2 := hrowO.max
    have hinO : RowIn w2 .u8 (some ⟨g, 0, none⟩) 0 0 X := ⟨hrowO.len, hrowO.cap, hrowO.max, fun _ => hrowO⟩
    go_wp2_with fail
    refine (from_all w2 _ 0 0 X hinO hX8 (by omega)).mono ?_
    rintro e w3 ⟨pa, na, ca, rfl, hA, hb3, hpa⟩
    obtain ⟨E, hE⟩ : ∃ E, getE X = E := ⟨_, rfl⟩
    rw [hE]
    have HE := Lib.hid hE
    clear hE
    have hbw3 := bstep hbw hb3
    have hbx := Box1.mk1 w3 (.slice pa na ca) 26
    have hN := getN_blen hX8
    have hl := hX.len
    have hlA : na ≤ 32 := hA.len_le (k := 32) (getN_lim hX8)
    obtain ⟨N, hNN⟩ : ∃ N, getN X = N := ⟨_, rfl⟩
    rw [hNN] at hA hN
    have HN := Lib.hid hNN
    have HL := Lib.hid hl
    clear hNN hl
    go_wp2_with fail
    refine (get_all _ _ 0 _ X (hX.below (bstep hbw3 hbx.bel)) hX8 (by omega)).mono ?_
    rintro e w4 ⟨p1, m1, d1, rfl, hP, hb4, hp1⟩
    rw [HN.out] at hP
    rw [HE.out]
    replace hbx := hbx.later hb4
    have hcO : (convert 22 9 (.slice (some ⟨g, 0, none⟩) 0 0)).run Try.prog w4 = .ok (.string (strOf X)) w4 := convert_in (hinO.below (bstep hb3 hbx.bel))
    have hcX : (convert 22 9 (.slice none 0 0)).run Try.prog w4 = .ok (.string (strOf X)) w4 := convert_in (hX.below (bstep hbw3 hbx.bel))
    have c0 := hbx.c0
    go_wp2_with fail
    clear hcO hcX c0
    refine (same_calls w4 pa na ca N p1 m1 d1 N (hA.below hbx.bel) (by omega) (by omega) hP (by rfl)).mono ?_
    rintro e w5 ⟨rfl, hb5⟩
    replace hbx := hbx.later hb5
    replace hP := hP.below hb5
    have hg3 : g < w3.heap.size := Nat.lt_of_lt_of_le hgl hb3.size
    have hg5 : g < w5.heap.size := Nat.lt_of_lt_of_le hg3 hbx.bel.size
    have ho5 : w5.ownsRow w.heap.size 5 1 (.slice (some ⟨g, 0, none⟩) 0 0) 0 ((X.map fun (x : Nat) => (x : Int)).map (Value.int .u8)) := by
      have e1 : ((X.map fun (x : Nat) => (x : Int)).map (Value.int .u8)) = (X.map fun (x : Nat) => Value.int .u8 x) := by simp [Function.comp_def]
      rw [e1]
      refine ⟨ho.1, ?_⟩
      rcases ho.2 with ⟨h1, _⟩ | ⟨g', cap', cur, h1, h2, h3, h4⟩
      · cases h1
      · cases h1
        refine .inr ⟨g, 0, cur, rfl, hgb, ?_, h4⟩
        rw [(bstep hb3 hbx.bel).block g hgl]; exact h3
    go_wp2
    go_loopw [10, 58] (fun _ i wr => ∃ k : Nat, k ≤ 0 ∧ i = .int .i64 k ∧ (∃ zs : List Int, zs.length = 0 ∧ wr.ownsRow w.heap.size 5 1 (.slice (some ⟨g, 0, none⟩) 0 0) 0 (zs.map (Value.int .u8))) ∧ w5.grownBy wr (some g)) (fun _ i _ => 0 - (intOf i).toNat)
    case atStart => exact ⟨0, by omega, rfl, ⟨_, by first | (simp; exact HL.out.symm) | (simp; exact List.eq_nil_of_length_eq_zero HL.out.symm), ho5⟩, grownBy_refl _ _⟩
    case round =>
      obtain ⟨k, hk, rfl, ⟨zs, hzs, hor⟩, hgr⟩ := hrel
      have hzs' := Lib.hid hzs
      clear hzs
      have hkn : ¬ k < 0 := by omega
      · obtain rfl : k = 0 := by omega
        have hA5 : NatAt wr pa na ca N := (hA.below hbx.bel).grown hgr (fun q hq => by have := hpa q hq; omega)
        have hP5 : BitsAt wr p1 m1 d1 N := BRow.grown hP hgr (fun q hq => by have := hp1 q hq; simp at this; omega)
        have c0' : wr.cell? ⟨w3.heap.size, 0, none⟩ = some (.slice pa na ca) := hgr.cell hbx.c0 (fun e => by have := Option.some.inj e; simp at this; omega)
        have hbwr : Below w.heap.size w wr := (bstep hbw3 hbx.bel).grown hgr (by have := (bstep hbw3 hbx.bel).size; exact this) (fun j hj => by cases hj; exact hgb)
        have hbc : w3.heap.size < wr.heap.size := by have := hgr.size; have := hbx.size; omega
        clear hor hzs' ho ho5
        go_wp2_with fail
        refine (bytes_calls wr pa na ca N size hA5 (by omega) (by omega) (by omega) hs0).mono ?_
        rintro e w6 ⟨qx, nx', dx, gk, rfl, hx, hgk, hb6, hqx⟩
        have hbw6 := bstep hbwr hb6
        have c0 := ((bcell hb6).1 _ 0 hbc).trans c0'
        clear c0'
        by_cases h1 : size < 0
        · rw [if_pos h1] at hgk hx
          have hlx := hx.len
          simp only [List.length_nil] at hlx
          subst hlx
          subst hgk
          go_wp2
          go_ret
          exact ⟨rfl, hbw6⟩
        · rw [if_neg h1] at hgk hx
          obtain ⟨s, rfl⟩ := Int.eq_ofNat_of_zero_le (show 0 ≤ size by omega)
          have HGK := Lib.hid hgk
          have HXX := Lib.hid hx
          clear hgk hx
          go_wp2_with fail
          refine (rbytes_calls w6 p1 m1 d1 N s (hP5.below hb6) (by omega) (by omega)).mono ?_
          rintro e w7 ⟨v, rfl, hv, hb7⟩
          have hbw7 := bstep hbw6 hb7
          have c7 := ((bcell hb7).1 _ 0 (Nat.lt_of_lt_of_le hbc hb6.size)).trans c0
          clear c0
          have hgk := HGK.out
          have hx := HXX.out.below hb7
          obtain ⟨qv, nv, dv, rfl, hv1, _⟩ := hv
          by_cases h2 : (s : Int) < bsize N
          · rw [if_pos h2] at hgk hx
            rw [if_neg (by omega)] at hv1
            have hd : decide (bsize N ≤ s) = false := decide_eq_false (by omega)
            rw [hd]
            clear hd h2
            subst hgk
            go_wp2_with fail
            refine (same_calls w7 pa na ca N p1 m1 d1 N (hA5.below (bstep hb6 hb7)) (by omega) (by omega) (hP5.below (bstep hb6 hb7)) (by rfl)).mono ?_
            rintro e w8 ⟨rfl, hb8⟩
            have k1 := convert_row (hx.below hb8)
            have k2 := convert_row (hv1.below hb8)
            go_wp2
            go_ret
            exact ⟨rfl, bstep hbw7 hb8⟩
          · rw [if_neg h2] at hgk hx
            rw [if_pos (by omega)] at hv1
            have hd : decide (bsize N ≤ s) = true := decide_eq_true (by omega)
            rw [hd]
            rw [Int.toNat_natCast] at hx
            clear hd h2
            subst hgk
            go_wp2_with fail
            refine (same_calls w7 pa na ca N p1 m1 d1 N (hA5.below (bstep hb6 hb7)) (by omega) (by omega) (hP5.below (bstep hb6 hb7)) (by rfl)).mono ?_
            rintro e w8 ⟨rfl, hb8⟩
            have k1 := convert_row (hx.below hb8)
            have k2 := convert_row (hv1.below hb8)
            go_wp2
            go_ret
            exact ⟨rfl, bstep hbw7 hb8⟩
  | some a =>
    clear hnil
    have hblk : 0 < n → a.block < w.heap.size := by
      intro h0
      obtain ⟨x, hx⟩ : ∃ x, X[0]? = some x := ⟨_, List.getElem?_eq_getElem (by rw [← hX.len]; exact h0)⟩
      have h1 := hp a rfl 0 x hx
      rcases Nat.lt_or_ge a.block w.heap.size with h2 | h2
      · exact h2
      · have e : (a.add 0).block = a.block := by unfold Addr.add; split <;> rfl
        unfold World.cell? at h1
        rw [e, Array.getElem?_eq_none h2] at h1
        cases h1
    have HP := Lib.hid (hp a rfl)
    have HB := Lib.hid hblk
    clear hp hblk
    go_enter Try.func3, Try.ntmps3
    go_wp2_with fail
    refine (lives_calls _).mono ?_
    rintro e w1 ⟨rfl, hbw⟩
    have hown := World.ownsRow_made w1 (base := w.heap.size) (e := 5) (size := 1) #[] 0 hbw.size (by simp [maxLen]) (by simp)
    replace hbw : Below w.heap.size w (w1.alloc (.cells #[] 5)) := hbw.alloc hbw.size _
    go_wp2_with (at_builtin; refine wpList_append_own _ rfl _ _ 22 rfl w.heap.size 5 i0 (.int .u8 0) 1 1 Try.underlying22 hi hz0 hz1 hz2 rfl (by decide) _ _ _ rfl hown a n cx (X.map fun (x : Nat) => Value.int .u8 x) rfl ?c1 ?c2 ?c3 ?c4 ?c5 ?c6 ?_)
    case c1 => simp; exact hX.len.symm
    case c2 =>
      intro j u hu
      rw [List.getElem?_map] at hu
      cases hx : X[j]? with
      | none => rw [hx] at hu; cases hu
      | some x =>
        rw [hx] at hu; cases hu
        have e : (a.add j).block = a.block := by unfold Addr.add; split <;> rfl
        have h0 : 0 < n := by have := (List.getElem?_eq_some_iff.1 hx).1; rw [hX.len]; omega
        rw [hbw.cell (p := a.add j) (by rw [e]; exact HB.out h0)]
        exact HP.out j x hx
    case c3 => intro u hu; simp only [List.mem_map] at hu; obtain ⟨x, _, rfl⟩ := hu; rfl
    case c4 => unfold maxLen; omega
    case c5 => omega
    case c6 => exact hbw.size
    intro v' w2 ho hgr hnn
    replace ho : w2.ownsRow w.heap.size 5 1 v' n (X.map fun (x : Nat) => Value.int .u8 x) := by simpa using ho
    have hvn : v' ≠ .slice none 0 0 := by
      intro e
      have h9 := hnn
      simp [e] at h9
    have ho2 : ∃ g cap, v' = .slice (some ⟨g, 0, none⟩) n cap ∧ w.heap.size ≤ g ∧ g < w2.heap.size := by
      rcases ho.2 with ⟨h1, _⟩ | ⟨g, cap, cur, h1, h2, h3, _⟩
      · exact absurd h1 hvn
      · exact ⟨g, cap, h1, h2, (Array.getElem?_eq_some_iff.1 h3).1⟩
    obtain ⟨g, cap, rfl, hgb, hgl⟩ := ho2
    replace hbw : Below w.heap.size w w2 := hbw.grown hgr hbw.size (fun j hj => (hown.lt j hj).1)
    clear hgr hnn hvn hown HP HB
    have hrowO : Row w2 .u8 (some ⟨g, 0, none⟩) n cap X := by
      obtain ⟨q, d, hq, hrow, _⟩ := Row.of_owns ho
      cases hq; exact hrow
    have hcap2 := hrowO.cap
    have hmax2 := hrowO.max
    have hinO : RowIn w2 .u8 (some ⟨g, 0, none⟩) n cap X := ⟨hrowO.len, hrowO.cap, hrowO.max, fun _ => hrowO⟩
    go_wp2_with fail
    refine (from_all w2 _ n cap X hinO hX8 (by omega)).mono ?_
    rintro e w3 ⟨pa, na, ca, rfl, hA, hb3, hpa⟩
    obtain ⟨E, hE⟩ : ∃ E, getE X = E := ⟨_, rfl⟩
    rw [hE]
    have HE := Lib.hid hE
    clear hE
    have hbw3 := bstep hbw hb3
    have hbx := Box1.mk1 w3 (.slice pa na ca) 26
    have hN := getN_blen hX8
    have hl := hX.len
    have hlA : na ≤ 32 := hA.len_le (k := 32) (getN_lim hX8)
    obtain ⟨N, hNN⟩ : ∃ N, getN X = N := ⟨_, rfl⟩
    rw [hNN] at hA hN
    have HN := Lib.hid hNN
    have HL := Lib.hid hl
    clear hNN hl
    go_wp2_with fail
    refine (get_all _ _ n _ X (hX.below (bstep hbw3 hbx.bel)) hX8 (by omega)).mono ?_
    rintro e w4 ⟨p1, m1, d1, rfl, hP, hb4, hp1⟩
    rw [HN.out] at hP
    rw [HE.out]
    replace hbx := hbx.later hb4
    have hcO : (convert 22 9 (.slice (some ⟨g, 0, none⟩) n cap)).run Try.prog w4 = .ok (.string (strOf X)) w4 := convert_in (hinO.below (bstep hb3 hbx.bel))
    have hcX : (convert 22 9 (.slice (some a) n cx)).run Try.prog w4 = .ok (.string (strOf X)) w4 := convert_in (hX.below (bstep hbw3 hbx.bel))
    have c0 := hbx.c0
    go_wp2_with fail
    clear hcO hcX c0
    refine (same_calls w4 pa na ca N p1 m1 d1 N (hA.below hbx.bel) (by omega) (by omega) hP (by rfl)).mono ?_
    rintro e w5 ⟨rfl, hb5⟩
    replace hbx := hbx.later hb5
    replace hP := hP.below hb5
    have hg3 : g < w3.heap.size := Nat.lt_of_lt_of_le hgl hb3.size
    have hg5 : g < w5.heap.size := Nat.lt_of_lt_of_le hg3 hbx.bel.size
    have ho5 : w5.ownsRow w.heap.size 5 1 (.slice (some ⟨g, 0, none⟩) n cap) n ((X.map fun (x : Nat) => (x : Int)).map (Value.int .u8)) := by
      have e1 : ((X.map fun (x : Nat) => (x : Int)).map (Value.int .u8)) = (X.map fun (x : Nat) => Value.int .u8 x) := by simp [Function.comp_def]
      rw [e1]
      refine ⟨ho.1, ?_⟩
      rcases ho.2 with ⟨h1, _⟩ | ⟨g', cap', cur, h1, h2, h3, h4⟩
      · cases h1
      · cases h1
        refine .inr ⟨g, cap, cur, rfl, hgb, ?_, h4⟩
        rw [(bstep hb3 hbx.bel).block g hgl]; exact h3
    go_wp2
    go_loopw [10, 58] (fun _ i wr => ∃ k : Nat, k ≤ n ∧ i = .int .i64 k ∧ (∃ zs : List Int, zs.length = n ∧ wr.ownsRow w.heap.size 5 1 (.slice (some ⟨g, 0, none⟩) n cap) n (zs.map (Value.int .u8))) ∧ w5.grownBy wr (some g)) (fun _ i _ => n - (intOf i).toNat)
    case atStart => exact ⟨0, by omega, rfl, ⟨_, by first | (simp; exact HL.out.symm) | (simp; exact List.eq_nil_of_length_eq_zero HL.out.symm), ho5⟩, grownBy_refl _ _⟩
    case round =>
      obtain ⟨k, hk, rfl, ⟨zs, hzs, hor⟩, hgr⟩ := hrel
      have hzs' := Lib.hid hzs
      clear hzs
      by_cases hkn : k < n
      · obtain ⟨z, hz⟩ : ∃ z, zs[k]? = some z := ⟨_, List.getElem?_eq_getElem (by rw [hzs'.out]; exact hkn)⟩
        have hck : wr.cell? ⟨g, k, none⟩ = some (.int .u8 z) := by rw [hor.cellAt k (by omega), List.getElem?_map, hz]; rfl
        have hfk := hor.frozenAt k
        have hst := hor.stored k (.int .u8 (bits BinOp.xor .u8 z 255))
        have HST := Lib.hid hst
        clear hst hz hor
        go_wp2
        go_roundw
        case rel => exact ⟨k + 1, by omega, by go_num, ⟨zs.set k (bits BinOp.xor .u8 z 255), by simp [hzs'.out], by rw [List.map_set]; exact HST.out.1⟩, grownBy_trans hgr HST.out.2⟩
        case measure => simp [intOf]; omega
      · obtain rfl : k = n := by omega
        have hA5 : NatAt wr pa na ca N := (hA.below hbx.bel).grown hgr (fun q hq => by have := hpa q hq; omega)
        have hP5 : BitsAt wr p1 m1 d1 N := BRow.grown hP hgr (fun q hq => by have := hp1 q hq; simp at this; omega)
        have c0' : wr.cell? ⟨w3.heap.size, 0, none⟩ = some (.slice pa na ca) := hgr.cell hbx.c0 (fun e => by have := Option.some.inj e; simp at this; omega)
        have hbwr : Below w.heap.size w wr := (bstep hbw3 hbx.bel).grown hgr (by have := (bstep hbw3 hbx.bel).size; exact this) (fun j hj => by cases hj; exact hgb)
        have hbc : w3.heap.size < wr.heap.size := by have := hgr.size; have := hbx.size; omega
        clear hor hzs' ho ho5
        go_wp2_with fail
        refine (bytes_calls wr pa na ca N size hA5 (by omega) (by omega) (by omega) hs0).mono ?_
        rintro e w6 ⟨qx, nx', dx, gk, rfl, hx, hgk, hb6, hqx⟩
        have hbw6 := bstep hbwr hb6
        have c0 := ((bcell hb6).1 _ 0 hbc).trans c0'
        clear c0'
        by_cases h1 : size < 0
        · rw [if_pos h1] at hgk hx
          have hlx := hx.len
          simp only [List.length_nil] at hlx
          subst hlx
          subst hgk
          go_wp2
          go_ret
          exact ⟨rfl, hbw6⟩
        · rw [if_neg h1] at hgk hx
          obtain ⟨s, rfl⟩ := Int.eq_ofNat_of_zero_le (show 0 ≤ size by omega)
          have HGK := Lib.hid hgk
          have HXX := Lib.hid hx
          clear hgk hx
          go_wp2_with fail
          refine (rbytes_calls w6 p1 m1 d1 N s (hP5.below hb6) (by omega) (by omega)).mono ?_
          rintro e w7 ⟨v, rfl, hv, hb7⟩
          have hbw7 := bstep hbw6 hb7
          have c7 := ((bcell hb7).1 _ 0 (Nat.lt_of_lt_of_le hbc hb6.size)).trans c0
          clear c0
          have hgk := HGK.out
          have hx := HXX.out.below hb7
          obtain ⟨qv, nv, dv, rfl, hv1, _⟩ := hv
          by_cases h2 : (s : Int) < bsize N
          · rw [if_pos h2] at hgk hx
            rw [if_neg (by omega)] at hv1
            have hd : decide (bsize N ≤ s) = false := decide_eq_false (by omega)
            rw [hd]
            clear hd h2
            subst hgk
            go_wp2_with fail
            refine (same_calls w7 pa na ca N p1 m1 d1 N (hA5.below (bstep hb6 hb7)) (by omega) (by omega) (hP5.below (bstep hb6 hb7)) (by rfl)).mono ?_
            rintro e w8 ⟨rfl, hb8⟩
            have k1 := convert_row (hx.below hb8)
            have k2 := convert_row (hv1.below hb8)
            go_wp2
            go_ret
            exact ⟨rfl, bstep hbw7 hb8⟩
          · rw [if_neg h2] at hgk hx
            rw [if_pos (by omega)] at hv1
            have hd : decide (bsize N ≤ s) = true := decide_eq_true (by omega)
            rw [hd]
            rw [Int.toNat_natCast] at hx
            clear hd h2
            subst hgk
            go_wp2_with fail
            refine (same_calls w7 pa na ca N p1 m1 d1 N (hA5.below (bstep hb6 hb7)) (by omega) (by omega) (hP5.below (bstep hb6 hb7)) (by rfl)).mono ?_
            rintro e w8 ⟨rfl, hb8⟩
            have k1 := convert_row (hx.below hb8)
            have k2 := convert_row (hv1.below hb8)
            go_wp2
            go_ret
            exact ⟨rfl, bstep hbw7 hb8⟩

end Go.Proofs.Ytoleblefdmdbjaa
