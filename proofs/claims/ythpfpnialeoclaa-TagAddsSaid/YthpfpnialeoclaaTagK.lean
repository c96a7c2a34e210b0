/- tag: the numbers of a message: the function's word, walked. -/
import Derived.Test.YthpfpnialeoclaaTagC
import Derived.Test.YthpfpnialeoclaaTagF
/-! tag: the numbers of a message, one for each part: what their function tells. -/
namespace Go.Proofs.Ythpfpnialeoclaa
open Go Go.RowKit Go.Shelf Go.Proofs.Ythpfpnialeoclaa.Flow
attribute [local go_sem] Oper.semAt_some

set_option maxHeartbeats 1000000 in
theorem numbers_calls (w : World) (p : Option Addr) (n c : Nat) :
    Calls Try.prog 12 #[.slice p n c] w fun e w' => e = .returned (.func (.func 29) #[] #[.pointer (some ⟨w.heap.size, 0, none⟩)]) ∧ w' = w.alloc (.cells #[.slice p n c] 22) := by
  go_enter Try.func12, Try.ntmps12
  go_wp2
  go_ret
  exact ⟨rfl, rfl⟩

theorem roundIn_wide {n m l l0 : Nat} {P : Program} {f : FuncId} {tmps : Array Value} {assign body : Code} {w : World} {R : Ending → World → Prop}
    (h : RoundIn Fence.wide n P l f tmps assign body w R) : RoundIn (Fence.wide.inRound l0) m P l f tmps assign body w R := ⟨trivial, fun c cs _ => h.2 c cs (room_wide _)⟩

/-- A chain of five calls and what else a region does: how far it is. -/
structure Chain (P2 P3 P4 P5 : Value → World → Prop) (Pre Post : World → Prop) (D : Nat → Bool) (sp : Nat → Value) (w : World) : Prop where
  c3 : D 3 = true → D 2 = true
  c4 : D 4 = true → D 3 = true
  c5 : D 5 = true → D 4 = true
  c6 : D 6 = true → D 5 = true
  pre : D 6 = false → Pre w
  p2 : D 6 = false → D 2 = true → P2 (sp 2) w
  p3 : D 6 = false → D 3 = true → P3 (sp 3) w
  p4 : D 6 = false → D 4 = true → P4 (sp 4) w
  p5 : D 6 = false → D 5 = true → P5 (sp 5) w
  post : D 6 = true → Post w

section
variable {P2 P3 P4 P5 : Value → World → Prop} {Pre Post : World → Prop} {D : Nat → Bool} {sp : Nat → Value} {w w' : World}
def Stable (p : World → Prop) : Prop := ∀ w w', p w → Below w.heap.size w w' → p w'

theorem Chain.start (h : Pre w) : Chain P2 P3 P4 P5 Pre Post (fun _ => false) (fun _ => undef) w :=
  ⟨by simp, by simp, by simp, by simp, fun _ => h, by simp, by simp, by simp, by simp, by simp⟩
theorem Chain.no6 (h : Chain P2 P3 P4 P5 Pre Post D sp w) : (D 3 = false → D 4 = false) ∧ (D 4 = false → D 5 = false) ∧ (D 5 = false → D 6 = false) := by
  refine ⟨fun h3 => ?_, fun h4 => ?_, fun h5 => ?_⟩
  · cases h4 : D 4 with
    | false => rfl
    | true => rw [h.c4 h4] at h3; cases h3
  · cases h5 : D 5 with
    | false => rfl
    | true => rw [h.c5 h5] at h4; cases h4
  · cases h6 : D 6 with
    | false => rfl
    | true => rw [h.c6 h6] at h5; cases h5
theorem Chain.two (h : Chain P2 P3 P4 P5 Pre Post D sp w) (hw : D 3 = false) (s : Stable Pre) (hb : Below w.heap.size w w') {u : Value} (hu : P2 u w') :
    Chain P2 P3 P4 P5 Pre Post (fun j => D j || decide (j = 2)) (upd sp 2 u) w' := by
  obtain ⟨n1, n2, n3⟩ := h.no6
  have h4 := n1 hw
  have h5 := n2 h4
  have h6 := n3 h5
  refine ⟨?_, ?_, ?_, ?_, ?_, ?_, ?_, ?_, ?_, ?_⟩ <;> simp [hw, h4, h5, h6, upd]
  · exact s _ _ (h.pre h6) hb
  · exact hu
theorem Chain.three (h : Chain P2 P3 P4 P5 Pre Post D sp w) (hw : D 4 = false) (hd : D 2 = true) (s : Stable Pre) (s2 : ∀ v, Stable (P2 v)) (hb : Below w.heap.size w w') {u : Value} (hu : P3 u w') :
    Chain P2 P3 P4 P5 Pre Post (fun j => D j || decide (j = 3)) (upd sp 3 u) w' := by
  obtain ⟨n1, n2, n3⟩ := h.no6
  have h5 := n2 hw
  have h6 := n3 h5
  refine ⟨?_, ?_, ?_, ?_, ?_, ?_, ?_, ?_, ?_, ?_⟩ <;> simp [hw, hd, h5, h6, upd]
  · exact s _ _ (h.pre h6) hb
  · exact s2 _ _ _ (h.p2 h6 hd) hb
  · exact hu
theorem Chain.four (h : Chain P2 P3 P4 P5 Pre Post D sp w) (hw : D 5 = false) (hd : D 3 = true) (s : Stable Pre) (s2 : ∀ v, Stable (P2 v)) (s3 : ∀ v, Stable (P3 v)) (hb : Below w.heap.size w w') {u : Value} (hu : P4 u w') :
    Chain P2 P3 P4 P5 Pre Post (fun j => D j || decide (j = 4)) (upd sp 4 u) w' := by
  obtain ⟨n1, n2, n3⟩ := h.no6
  have h6 := n3 hw
  have h2 := h.c3 hd
  refine ⟨?_, ?_, ?_, ?_, ?_, ?_, ?_, ?_, ?_, ?_⟩ <;> simp [hw, hd, h2, h6, upd]
  · exact s _ _ (h.pre h6) hb
  · exact s2 _ _ _ (h.p2 h6 h2) hb
  · exact s3 _ _ _ (h.p3 h6 hd) hb
  · exact hu
theorem Chain.five (h : Chain P2 P3 P4 P5 Pre Post D sp w) (hw : D 6 = false) (hd : D 4 = true) (s : Stable Pre) (s2 : ∀ v, Stable (P2 v)) (s3 : ∀ v, Stable (P3 v)) (s4 : ∀ v, Stable (P4 v)) (hb : Below w.heap.size w w') {u : Value} (hu : P5 u w') :
    Chain P2 P3 P4 P5 Pre Post (fun j => D j || decide (j = 5)) (upd sp 5 u) w' := by
  have h3 := h.c4 hd
  have h2 := h.c3 h3
  refine ⟨?_, ?_, ?_, ?_, ?_, ?_, ?_, ?_, ?_, ?_⟩ <;> simp [hw, hd, h2, h3, upd]
  · exact s _ _ (h.pre hw) hb
  · exact s2 _ _ _ (h.p2 hw h2) hb
  · exact s3 _ _ _ (h.p3 hw h3) hb
  · exact s4 _ _ _ (h.p4 hw hd) hb
  · exact hu
theorem Chain.six (h : Chain P2 P3 P4 P5 Pre Post D sp w) (hd : D 5 = true) {u : Value} (hu : Post w') :
    Chain P2 P3 P4 P5 Pre Post (fun j => D j || decide (j = 6)) (upd sp 6 u) w' := by
  have h4 := h.c5 hd
  have h3 := h.c4 h4
  have h2 := h.c3 h3
  refine ⟨?_, ?_, ?_, ?_, ?_, ?_, ?_, ?_, ?_, ?_⟩ <;> simp [hd, h2, h3, h4]
  exact hu
end

end Go.Proofs.Ythpfpnialeoclaa

/-! tag: the numbers of a message: the function's word. -/
namespace Go.Proofs.Ythpfpnialeoclaa
open Go Go.RowKit Go.Shelf Go.Proofs.Ythpfpnialeoclaa.Flow
attribute [local go_sem] Oper.semAt_some

theorem RowIn.shut {w : World} {k : IntKind} {p : Option Addr} {n c : Nat} {xs : List Nat} (h : RowIn w k p n c xs) : RowIn w k p n n xs := by
  have h1 := h.cap
  have h2 := h.max
  refine ⟨h.len, Nat.le_refl _, by omega, fun h0 => ?_⟩
  obtain ⟨r1, r2, r3, r4⟩ := h.row h0
  refine ⟨r1, Nat.le_refl _, by omega, ?_⟩
  rcases r4 with ⟨r5, r6, r7⟩ | r4
  · exact .inl ⟨r5, r6, r6⟩
  · exact .inr r4

/-- The k-th part of a message. -/
def piece (xs : List Nat) (k : Nat) : List Nat := (xs.drop (16 * k)).take 16
theorem piece_length (xs : List Nat) (k : Nat) : (piece xs k).length = min 16 (xs.length - 16 * k) := by simp [piece]

/-- Its row. -/
theorem part_row {w : World} {b off len cap : Nat} {xs : List Nat} (h : RowIn w .u8 (some ⟨b, off, none⟩) len cap xs) (k : Nat) (hk : 16 * k < len) :
    RowIn w .u8 (some ⟨b, off + 16 * k, none⟩) (min 16 (len - 16 * k)) (min 16 (len - 16 * k)) (piece xs k) := by
  have h1 := (h.drop (16 * k) (by omega)).take (min 16 (len - 16 * k)) (Nat.min_le_right _ _)
  have e : (xs.drop (16 * k)).take (min 16 (len - 16 * k)) = piece xs k := by
    unfold piece
    rw [List.take_eq_take_iff, List.length_drop, ← h.len]
    omega
  rw [e] at h1
  exact h1.shut

/-- A byte 1. -/
def OneAt (v : Value) (w : World) : Prop := ∃ g, v = .slice (some ⟨g, 0, none⟩) 1 1 ∧ Blk w g 5 .u8 [1]
theorem OneAt.stable (v : Value) : Stable (OneAt v) := fun _ _ ⟨g, h1, h2⟩ hb => ⟨g, h1, h2.below hb h2.lt⟩
/-- Two rows, the second one a byte 1. -/
def TwoAt (a v : Value) (w : World) : Prop := ∃ s u, v = .slice (some ⟨s, 0, none⟩) 2 2 ∧ Two w s a u ∧ OneAt u w
theorem TwoAt.stable (a v : Value) : Stable (TwoAt a v) := fun _ _ ⟨s, u, h1, h2, h3⟩ hb => ⟨s, u, h1, h2.below hb, OneAt.stable _ _ _ h3 hb⟩
theorem OwnIs.stable (lo : Nat) (bs : List Nat) (v : Value) : Stable (OwnIs lo bs v) := fun _ _ h hb => h.below hb
theorem Fit.stable (e N : Nat) (v : Value) : Stable (Fit e N v) := fun _ _ h hb => h.below hb

/-- What holds between two rounds. -/
structure Btw (J : Nat → World → Prop) (w0 : World) (B l k : Nat) (w : World) : Prop where
  j : J k w
  c : w.cell? ⟨B, 0, none⟩ = some (.func (.yield l) #[] #[])
  b : Below w0.heap.size w0 w
theorem Btw.stable {J : Nat → World → Prop} {B' : Nat} (hJ : OwnFrom B' J) (w0 : World) (B l k : Nat) : Stable (Btw J w0 B l k) := fun w w' h hb => by
  refine ⟨OwnFrom.step hJ h.j hb, ?_, h.b.trans (hb.mono h.b.size)⟩
  have hlt : B < w.heap.size := by
    have := h.c
    unfold World.cell? at this
    rcases Nat.lt_or_ge B w.heap.size with h1 | h1
    · exact h1
    · simp [Array.getElem?_eq_none h1] at this
  rw [hb.cell (p := ⟨B, 0, none⟩) hlt]
  exact h.c
theorem Btw.own {J : Nat → World → Prop} {B B' : Nat} (hJ : OwnFrom B J) (w0 : World) (hw : w0.heap.size ≤ B') (l : Nat) (hB : B ≤ B') : OwnFrom B' (Btw J w0 B l) := fun k W W' row hs hg hr =>
  ⟨ownFrom_mono hJ hB k W W' row hs.j hg hr, cell_kept hs.c hg (fun r e => (hr r e).2), hs.b.grown hg hs.b.size (fun j e => Nat.le_trans hw (hr j e).1)⟩

/-- .. and what the round itself keeps. -/
structure Pre (J : Nat → World → Prop) (w0 : World) (B B2 l k : Nat) (Wb w : World) : Prop where
  i : Btw J w0 B l k w
  m : Mid (fun j => B ≤ j) Wb w
theorem Pre.stable {J : Nat → World → Prop} {B' : Nat} (hJ : OwnFrom B' J) (w0 : World) (B B2 l k : Nat) (Wb : World) : Stable (Pre J w0 B B2 l k Wb) := fun w w' h hb =>
  ⟨Btw.stable hJ w0 B l k w w' h.i hb, h.m.trans (Mid.of hb)⟩

end Go.Proofs.Ythpfpnialeoclaa

namespace Go.Proofs.Ythpfpnialeoclaa
open Go Go.RowKit Go.Shelf Go.Proofs.Ythpfpnialeoclaa.Flow
attribute [local go_sem] Oper.semAt_some

set_option maxRecDepth 1000000 in
set_option maxHeartbeats 8000000 in
theorem numbers1_tells (n B l bb len cap N : Nat) (p : Option Addr) (xs : List Nat) (w0 W : World) (hn : 1 ≤ n) (hx : RowIn w0 .u8 p len cap xs) (h8 : Bytes8 xs) (hlen : len ≤ 1000000) (hN : len ≤ 16 * N) (hN2 : 16 * N < len + 16)
    (hB : W.heap.size = B) (hW : Below w0.heap.size w0 W) (hn0 : w0.heap.size ≤ B) (hc : W.cell? ⟨bb, 0, none⟩ = some (.slice p len cap)) :
    Tells Fence.wide n Try.prog 29 #[.pointer (some ⟨bb, 0, none⟩)] B l N (Mid (fun j => j < w0.heap.size ∨ B ≤ j)) (fun k v w => Fit 32 (le (piece xs k ++ [1])) v w) W := by
  intro J hJ hY h0
  obtain ⟨b, off, hp⟩ : ∃ b off, 0 < len → p = some ⟨b, off, none⟩ := by
    rcases Nat.eq_zero_or_pos len with h | h
    · exact ⟨0, 0, fun h' => by omega⟩
    · obtain ⟨b, off, h1, _⟩ := (hx.row h).pos h
      exact ⟨b, off, fun _ => h1⟩
  have HJ : Hold (OwnFrom B J) := ⟨hJ⟩
  have HY : Hold _ := ⟨hY⟩
  have HX : Hold _ := ⟨hx⟩
  have H8 : Hold (Bytes8 xs) := ⟨h8⟩
  have HP : Hold _ := ⟨hp⟩
  have HJ0 : Hold _ := ⟨h0⟩
  have HW0 : Hold _ := ⟨hW⟩
  have HN : Hold _ := ⟨hN⟩
  have HN2 : Hold _ := ⟨hN2⟩
  have hcap := hx.cap
  have hltb : bb < W.heap.size := by
    have := hc
    unfold World.cell? at this
    rcases Nat.lt_or_ge bb W.heap.size with h1 | h1
    · exact h1
    · simp [Array.getElem?_eq_none h1] at this
  subst hB
  clear hJ hY hx h8 hp h0 hN hN2
  refine callsIn_of_wp_marks Try.func29 rfl trivial ?_ rfl
  simp only [Try.ntmps29, List.size_toArray, List.length_cons, List.length_nil, Nat.reduceAdd, Nat.reduceSub, Array.replicate_succ, Array.replicate_zero, List.push_toArray, List.append_toArray, List.nil_append, List.cons_append]
  gi_wp2_with fail
  refine ⟨trivial, (callsIn_wide.2 (chunk_calls _ p len cap)).mono ?_⟩
  rintro e w' ⟨rfl, rfl⟩
  gi_wp2_with fail
  obtain ⟨W2, hW2⟩ : ∃ W2, ((W.alloc (.cells #[.func (.yield l) #[] #[]] 62)).alloc (.cells #[.slice p len cap] 22)).alloc (.cells #[.int .i64 16] 3) = W2 := ⟨_, rfl⟩
  have hs2 : W2.heap.size = W.heap.size + 3 := by rw [← hW2]; simp
  have hb2 : Below W.heap.size W W2 := by
    rw [← hW2]; exact (((Below.refl _ _).alloc (Nat.le_refl _) _).alloc (by simp) _).alloc (by simp; omega) _
  have e0 : W2.cell? ⟨W.heap.size, 0, none⟩ = some (.func (.yield l) #[] #[]) := by rw [← hW2]; simp [go_sem]
  have e1 : W2.cell? ⟨W.heap.size + 1, 0, none⟩ = some (.slice p len cap) := by rw [← hW2]; simp [go_sem]
  have e2 : W2.cell? ⟨W.heap.size + 1 + 1, 0, none⟩ = some (.int .i64 16) := by rw [← hW2]; simp [go_sem]
  rw [hW2]
  clear hW2
  have hbt : Btw J w0 W.heap.size l 0 W2 := ⟨OwnFrom.step HJ.out HJ0.out hb2, e0, HW0.out.trans (hb2.mono HW0.out.size)⟩
  have HBT : Hold _ := ⟨hbt⟩
  have E1 : Hold _ := ⟨e1⟩
  have E2 : Hold _ := ⟨e2⟩
  clear hbt e0 e1 e2 hb2
  refine wpIn_rangeFunc_tells rfl hn (gf := 44) (lb := #[.pointer (some ⟨W.heap.size + 1, 0, none⟩), .pointer (some ⟨W.heap.size + 1 + 1, 0, none⟩)]) rfl trivial (enters_of Try.func44 (by kernel_rfl) rfl)
    (N := N) (Kp := Mid (fun j => W.heap.size ≤ j ∧ j < W.heap.size + 3)) (Gd := fun k v _ => v = part b off len k)
    (fun W3 _ hb3 => chunk1_tells (n - 1) (W2.heap.size + 2) (W2.heap.size + 1) (W.heap.size + 1) (W.heap.size + 1 + 1) b off len cap N p HP.out hcap hlen HN.out HN2.out _ W3
      ((hb3.cell (p := ⟨W.heap.size + 1, 0, none⟩) (by simp; omega)).trans E1.out) ((hb3.cell (p := ⟨W.heap.size + 1 + 1, 0, none⟩) (by simp; omega)).trans E2.out) ?hkp)
    (fun h k => h.trans k) (fun W3 o => Mid.putObj _ _ _ (by omega))
    (Btw J w0 W.heap.size l) (Btw.own HJ.out w0 (by omega) l (by omega)) HBT.out
    (fun k a' W3 => a' = { tmps := #[.func (.yield l) #[] #[], .pointer (some ⟨bb, 0, none⟩), .pointer (some ⟨W.heap.size, 0, none⟩), part b off len k, .slice p len cap,
      .func (.func 44) #[] #[.pointer (some ⟨W.heap.size + 1, 0, none⟩), .pointer (some ⟨W.heap.size + 1 + 1, 0, none⟩)], part b off len k, undef, undef, undef, undef, undef, undef, undef, undef], defers := [] } ∧ Btw J w0 W.heap.size l k W3)
    (fun k a' => OwnFrom.and (ownFrom_pure _ (fun (_ : Unit) => a' = _)) (fun _ X Y row hs hg hr => Btw.own HJ.out w0 (by omega) l (by omega) k X Y row hs hg hr)) ?assign ?body ?done
  case hkp => exact fun A C hm u => ⟨fun h => hm.cell (by simp) h, fun h => hm.cell (by simp; omega) h⟩
  case assign => 
    rintro l2 k v W3 K hk hi rfl hK
    unfold part
    gi_wp2
    exact hK _ _ (KeepsFrom.refl _ _) (Mid.refl _ _) ⟨rfl, hi⟩
  case body =>
    rintro l2 k a' Wb hk ⟨rfl, hbt⟩
    have hk16 : 16 * k < len := by have := HN2.out; omega
    obtain rfl := HP.out (by omega)
    have HBb : Hold _ := ⟨hbt⟩
    clear hbt
    unfold part
    gi_wp2_with fail
    have hlenp : (piece xs k ++ [1]).length = min 16 (len - 16 * k) + 1 := by rw [List.length_append, piece_length, ← HX.out.len]; rfl
    have HLP : Hold _ := ⟨hlenp⟩
    have H8P : Hold (Bytes8 (piece xs k ++ [1])) := ⟨fun x hx => by
      rcases List.mem_append.1 hx with h | h
      · exact (H8.out) x (List.mem_of_mem_drop (List.mem_of_mem_take h))
      · simp at h; omega⟩
    have SP : Hold (Stable (Pre J w0 W.heap.size W2.heap.size l k Wb)) := ⟨Pre.stable HJ.out w0 _ _ l k Wb⟩
    clear hlenp
    refine wpIn_region_dutiesR (Fe := Fence.wide.inRound l2) (by kernel_rfl) (by kernel_rfl) (by kernel_rfl) (fun _ => trivial) rfl
      [some (.func (.yield l) #[] #[]), some (.slice (some ⟨b, off + 16 * k, none⟩) (min 16 (len - 16 * k)) (min 16 (len - 16 * k))), none, none, none, none, none, some (.bool false)]
      [false, false, true, true, true, true, true, false] rfl
      (fun _ _ => True)
      (fun D sp w' => Chain OneAt (TwoAt (.slice (some ⟨b, off + 16 * k, none⟩) (min 16 (len - 16 * k)) (min 16 (len - 16 * k)))) (OwnIs 0 (piece xs k ++ [1])) (Fit 32 (le (piece xs k ++ [1]))) (Pre J w0 W.heap.size W2.heap.size l k Wb) (Pre J w0 W.heap.size W2.heap.size l (k + 1) Wb) D sp w')
      (fun i v _ => i = 6 → v = .bool true)
      (fun _ _ _ _ h _ => h) (Chain.start (SP.out _ _ ⟨HBb.out, Mid.refl _ _⟩ (Below.refl _ _).drew)) ?_ ?_
    · simp only [DutiesR, Nat.reduceAdd]
      refine ⟨?_, ?_, ?_, ?_, ?_, ?_, ?_, ?_, trivial⟩
      case refine_1 =>
        intro D sp w' hD hW hdp hg
        have h6 : D 6 = false := hW 6 (List.mem_of_elem_eq_true (by kernel_rfl))
        have c0 := (hg.pre h6).i.c
        refine askedR_of_asked ?_
        simp [asked, Region.wanted, Oper.gives, execOp, Act.eval, Act.put, go_sem, c0]
      case refine_2 =>
        intro D sp w' hD hW hdp hg
        refine askedR_of_asked ?_
        simp [asked, Region.wanted, Oper.gives, execOp, Act.eval, Act.put, go_sem]
      case refine_3 =>
        intro D sp w' hD hW hdp hg
        have h3 : D 3 = false := hW 3 (List.mem_of_elem_eq_true (by kernel_rfl))
        refine askedR_of_asked ?_
        (with_reducible refine asked_value (w1 := w'.alloc (.cells #[.int .u8 1] 5)) (v := .slice (some ⟨w'.heap.size, 0, none⟩) 1 1) ?_ ?_ ?_)
        · simp only [Region.wanted]
        · simp [execOp, Act.eval, Act.put, go_sem]
        · exact ⟨trivial, fun h => absurd h (by decide), hg.two h3 SP.out ((Below.refl _ _).alloc (Nat.le_refl _) _) ⟨_, rfl, heap_alloc_new w' _⟩⟩
      case refine_4 =>
        intro D sp w' hD hW hdp hg
        have h4 : D 4 = false := hW 4 (List.mem_of_elem_eq_true (by kernel_rfl))
        have h2 : D 2 = true := (hdp 2 (List.mem_of_elem_eq_true (by kernel_rfl))).1
        have h6 : D 6 = false := hg.no6.2.2 (hg.no6.2.1 h4)
        have hone : OneAt (sp 2) w' := hg.p2 h6 h2
        refine askedR_of_asked ?_
        (with_reducible refine asked_value (w1 := w'.alloc (.cells #[.slice (some ⟨b, off + 16 * k, none⟩) (min 16 (len - 16 * k)) (min 16 (len - 16 * k)), sp 2] 22)) (v := .slice (some ⟨w'.heap.size, 0, none⟩) 2 2) ?_ ?_ ?_)
        · simp only [Region.wanted]
        · obtain ⟨g, e, _⟩ := hone
          simp [execOp, Act.eval, Act.put, go_sem, e]
        · exact ⟨trivial, fun h => absurd h (by decide), hg.three h4 h2 SP.out OneAt.stable ((Below.refl _ _).alloc (Nat.le_refl _) _) ⟨_, _, rfl, heap_alloc_new w' _, OneAt.stable _ _ _ hone ((Below.refl _ _).alloc (Nat.le_refl _) _)⟩⟩
      case refine_5 =>
        intro D sp w' hD hW hdp hg
        have h5 : D 5 = false := hW 5 (List.mem_of_elem_eq_true (by kernel_rfl))
        have h3 : D 3 = true := (hdp 3 (List.mem_of_elem_eq_true (by kernel_rfl))).1
        have h6 : D 6 = false := hg.no6.2.2 h5
        obtain ⟨s, u, es, htwo, g, eu, hone⟩ := hg.p3 h6 h3
        have hpre := hg.pre h6
        refine askedR_of_asked ?_
        (with_reducible refine asked_call (w1 := w') (f := 31) (args := #[.slice (some ⟨s, 0, none⟩) 2 2]) ?_ ?_ ?_)
        · simp only [Region.wanted]
        · simp [execOp, Act.eval, Act.put, go_sem, es]
        · have hrow := (part_row HX.out k hk16).below hpre.i.b
          rw [eu] at htwo
          refine (concat8_calls w' s _ _ _ (piece xs k) _ 1 1 [1] htwo hrow (fun h => nomatch h) ⟨rfl, Nat.le_refl _, by decide, fun _ => hone.row rfl (Nat.le_refl _) (by decide)⟩ (fun h => nomatch h) (by omega) (by decide)).mono ?_
          rintro e w5 ⟨v, rfl, hv, hb⟩
          exact ⟨v, rfl, trivial, fun h => absurd h (by decide), hg.four h5 h3 SP.out OneAt.stable (TwoAt.stable _) hb hv.zero⟩
      case refine_6 =>
        intro D sp w' hD hW hdp hg
        have h6 : D 6 = false := hW 6 (List.mem_of_elem_eq_true (by kernel_rfl))
        have h4 : D 4 = true := (hdp 4 (List.mem_of_elem_eq_true (by kernel_rfl))).1
        have hown := hg.p4 h6 h4
        refine askedR_of_asked ?_
        refine hown.elim fun q c hv hr _ hz => ?_
        rw [HLP.out] at hv hr
        (with_reducible refine asked_call (w1 := w') (f := 10) (args := #[.slice q (min 16 (len - 16 * k) + 1) c]) ?_ ?_ ?_)
        · simp only [Region.wanted]
        · simp [execOp, Act.eval, Act.put, go_sem, hv]
        · refine (number_fit w' q _ c (piece xs k ++ [1]) hr hz H8P.out (by omega) (by omega)).mono ?_
          rintro e w5 ⟨v, rfl, hf, hb⟩
          exact ⟨v, rfl, trivial, fun h => absurd h (by decide), hg.five h6 h4 SP.out OneAt.stable (TwoAt.stable _) (OwnIs.stable _ _) hb hf⟩
      case refine_7 =>
        intro D sp w' hD hW hdp hg
        have h5 : D 5 = true := (hdp 5 (List.mem_of_elem_eq_true (by kernel_rfl))).1
        have hpre := hg.pre hD
        obtain ⟨fn, tmps, assign, body, hy, hR⟩ := HY.out k (sp 5) w' hk hpre.i.j (hg.p5 hD h5)
        refine askedR_round (l := l) (fn := fn) (tmps := tmps) (assign := assign) (body := body) rfl ?_ (RoundIn.mono (roundIn_wide hR) ?_)
        · simp [execOp, Act.eval, Act.put, go_sem, hy]
        · rintro e w5 ⟨rfl, hj5, hm5⟩
          refine ⟨_, rfl, trivial, fun _ => rfl, hg.six h5 ⟨⟨hj5, hm5.cell (.inr (Nat.le_refl _)) hpre.i.c, hpre.i.b.trans (hm5.below hpre.i.b.size (fun j hj => .inl hj))⟩, hpre.m.trans (hm5.mono (fun j hj => .inr hj))⟩⟩
      case refine_8 =>
        intro D sp w' hD hW hdp hg
        have e6 : sp 6 = .bool true := (hdp 6 (List.mem_of_elem_eq_true (by kernel_rfl))).2 rfl
        refine askedR_of_asked ?_
        simp [asked, Region.wanted, Oper.gives, execOp, Act.eval, Act.put, go_sem, e6]
    · intro sp w7 hsp hg
      have hpost := hg.post rfl
      have HPo : Hold _ := ⟨hpost⟩
      clear hsp hg hpost
      simp only [frameOf]
      generalize sp 2 = u2 at *
      generalize sp 3 = u3 at *
      generalize sp 4 = u4 at *
      generalize sp 5 = u5 at *
      generalize sp 6 = u6 at *
      go_simp
      gi_wp2
      exact ⟨HPo.out.m.keeps (fun j hj => by omega), HPo.out.m.mono (fun j hj => hj.1), HPo.out.i⟩
  case done =>
    rintro D W3 hD hi hK
    gi_wp2
    refine ⟨by simp, .inl ⟨_, _, rfl, run_takeDeferred hK, ?_⟩⟩
    exact ⟨_, results_none rfl _ _ _, ⟨_, rfl⟩, OwnFrom.putObj HJ.out _ hi.j (by omega) hK rfl⟩

end Go.Proofs.Ythpfpnialeoclaa
