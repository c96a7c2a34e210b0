/- What a scar leaves: (Scar).face; the last scar of each sector. -/
import Derived.Test.YtpodoleopebioaaSlG
namespace Go.Proofs.Ytpodoleopebioaa
open Go Go.RowKit Go.Maps Go.Proofs.Ytpodoleopebioaa.Flow
set_option maxRecDepth 100000

theorem code_at {c : Code} {P : Program} {Q : Exit → Act → World → Prop} {a : Act} {w w' : World} (h : w = w') (k : c.wp P Q a w') : c.wp P Q a w := h ▸ k

/-- copy over a row of 64 bytes of the call's own. -/
theorem copy_run {w : World} {g : Nat} {t ty : TypeId} {us : List Nat} (hg : Blk w g t .u8 us) (hu : us.length = 64) {p : Option Addr} {n c : Nat} {bs : List Nat} (hp : RowIn w .u8 p n c bs) :
    ∃ w' j, (Builtin.copy_ #[26, 26] ty #[.slice (some ⟨g, 0, none⟩) 64 64, .slice p n c]).run Try.prog w = .ok (goInt j) w' ∧ Blk w' g t .u8 (bs.take 64 ++ us.drop (min n 64)) ∧ But g w w' := by
  have hl := hp.len
  by_cases h0 : n = 0
  · subst h0
    have : bs = [] := List.eq_nil_of_length_eq_zero hl.symm
    subst this
    refine ⟨w, 0, run_copy_none (P := Try.prog) w _ _ ty 5 _ _ _ _ _ _ Try.underlying26 (by kernel_rfl) rfl, ?_, But.refl _ _⟩
    simpa using hg
  · obtain ⟨b, off, rfl, _, hc⟩ := (hp.row (by omega)).pos (by omega)
    have hg' := hg
    unfold Blk at hg'
    have hrun := run_copy_row (P := Try.prog) w 26 26 ty 5 g 0 64 64 ⟨b, off, none⟩ n c _ t ((bs.take 64).map fun (x : Nat) => Value.int .u8 x) Try.underlying26 (by kernel_rfl) hg' (by rw [List.length_map, List.length_take, ← hl]; show min 64 n = min n 64; omega)
      (fun j v hv => by
        rw [List.getElem?_map] at hv
        obtain ⟨x, hx, rfl⟩ := Option.map_eq_some_iff.1 hv
        rw [add_plain]
        rw [List.getElem?_take] at hx
        split at hx
        · exact hc j x hx
        · cases hx) (by simp [hu]; omega) (fun v hv => by obtain ⟨x, _, rfl⟩ := List.mem_map.1 hv; rfl)
    refine ⟨_, _, hrun, ?_, But.setRow _ _⟩
    unfold Blk
    rw [setRow_heap w g _ _ t _ hg']
    simp only [List.take_zero, List.nil_append, Nat.zero_add, List.length_map, List.length_take, List.map_append, List.map_drop, ← hl]
    rw [show min 64 n = min n 64 by omega]

theorem fit_eq {bs : List Nat} {n : Nat} (hn : n = bs.length) : bs.take 64 ++ (plainN 0).drop (min n 64) = fitN bs := by
  subst hn
  unfold fitN plainN
  rw [List.take_append, List.drop_replicate]
  congr 1
  rw [List.take_replicate]
  congr 1; omega

set_option maxHeartbeats 2000000 in
set_option maxRecDepth 100000 in
theorem scarface_calls {w : World} {x : Int} {p : Option Addr} {n c : Nat} {bs : List Nat} (hp : RowIn w .u8 p n c bs) {A : Array Value} (hA : ((fitN bs).map fun (x : Nat) => Value.int .u8 x).toArray = A) :
    Calls Try.prog 32 #[.agg #[.int .i64 x, .slice p n c]] w fun e w' => e = .returned (.agg A) ∧ Below w.heap.size w w' := by
  have HP : Hold _ := ⟨hp⟩
  have HA : Hold _ := ⟨hA⟩
  clear hp hA
  go_enter Try.func32, Try.ntmps32
  go_wp2
  refine code_at (w' := ((w.alloc (.cells #[.int .i64 x, .slice p n c] 58)).alloc (.cells (zeros .u8 64) 66)).alloc (.cells (zeros .u8 64) 66)) (by kernel_rfl) ?_
  obtain ⟨q1, hq1⟩ : ∃ q, w.heap.size = q := ⟨_, rfl⟩
  obtain ⟨q2, hq2⟩ : ∃ q, w.heap.size + 1 = q := ⟨_, rfl⟩
  obtain ⟨q3, hq3⟩ : ∃ q, w.heap.size + 1 + 1 = q := ⟨_, rfl⟩
  obtain ⟨wx, hwx⟩ : ∃ wx, ((w.alloc (.cells #[.int .i64 x, .slice p n c] 58)).alloc (.cells (zeros .u8 64) 66)).alloc (.cells (zeros .u8 64) 66) = wx := ⟨_, rfl⟩
  have hbl : Below w.heap.size w wx := by rw [← hwx]; exact (((Below.refl _ _).alloc (Nat.le_refl _) _).alloc (by simp) _).alloc (by simp; omega) _
  have h1 : wx.heap[q1]? = some (.cells #[.int .i64 x, .slice p n c] 58 (0, 0)) := by
    rw [← hwx, ← hq1, Below.heap_alloc _ _ _ (by simp; omega), Below.heap_alloc _ _ _ (by simp)]
    exact heap_alloc_new w _
  have h2 : Blk wx q2 66 .u8 (plainN 0) := by
    have := (Blk.zeros (w.alloc (.cells #[.int .i64 x, .slice p n c] 58)) 66 .u8 64).alloc (.cells (zeros .u8 64) 66)
    rw [hwx, show (w.alloc (.cells #[.int .i64 x, .slice p n c] 58)).heap.size = w.heap.size + 1 by simp, hq2] at this
    exact this
  have h3 : Blk wx q3 66 .u8 (plainN 0) := by
    have := Blk.zeros ((w.alloc (.cells #[.int .i64 x, .slice p n c] 58)).alloc (.cells (zeros .u8 64) 66)) 66 .u8 64
    rw [hwx, show ((w.alloc (.cells #[.int .i64 x, .slice p n c] 58)).alloc (.cells (zeros .u8 64) 66)).heap.size = w.heap.size + 1 + 1 by simp, hq3] at this
    exact this
  have HBL : Hold _ := ⟨hbl⟩
  have HQ2 : Hold _ := ⟨h2⟩
  have HQ3 : Hold _ := ⟨h3⟩
  have HLT : Hold (q1 < q2 ∧ q2 < q3 ∧ q1 < wx.heap.size ∧ w.heap.size = q1) := ⟨by omega, by omega, (Array.getElem?_eq_some_iff.1 h1).1, hq1⟩
  have HC : Hold (∀ w', But q3 wx w' → w'.cell? ⟨q1, 1, none⟩ = some (.slice p n c)) := ⟨fun w' h => by
    rw [h.cell HLT.out.2.2.1 (by show q1 ≠ q3; omega)]
    simp [World.cell?, h1]⟩
  have HCP : Hold (∀ w', Blk w' q3 66 .u8 (plainN 0) → But q3 wx w' → ∀ C : Prop, (∀ w2 j, (Builtin.copy_ #[26, 26] 3 #[.slice (some ⟨q3, 0, none⟩) 64 64, .slice p n c]).run Try.prog w' = .ok (goInt j) w2 → Blk w2 q3 66 .u8 (fitN bs) → But q3 w' w2 → C) → C) := ⟨fun w' hb hbut C hC => by
    have hrow : RowIn w' .u8 p n c bs := by
      have h9 := HP.out.below HBL.out
      refine ⟨h9.len, h9.cap, h9.max, fun h0 => (h9.row h0).but hbut (fun q hq => ?_)⟩
      obtain ⟨b9, off9, e9, h8, _⟩ := (HP.out.row h0).pos h0
      rw [e9] at hq
      cases hq
      show b9 ≠ q3
      omega
    obtain ⟨w2, j, r1, r2, r3⟩ := copy_run (ty := 3) hb (plainN_len 0) hrow
    rw [fit_eq hrow.len] at r2
    exact hC w2 j r1 r2 r3⟩
  rw [hwx, hq3, hq2, hq1]
  clear hwx hbl h1 h2 h3 hq1 hq2 hq3
  refine wp_region_duties (by kernel_rfl) (by kernel_rfl)
    [some (.slice (some ⟨q3, 0, none⟩) 64 64), some (.pointer (some ⟨q1, 1, none⟩)), some (.slice p n c), none]
    [false, false, false, true] rfl
    (fun w1 w2 => True)
    (fun D w' => Blk w' q3 66 .u8 (cond (D 3) (fitN bs) (plainN 0)) ∧ But q3 wx w')
    (fun i v w' => match i with
      | 3 => True
      | _ => True)
    ?_ ⟨HQ3.out.below ((Below.refl _ _).drew) HQ3.out.lt, But.of (Below.refl _ _).drew⟩ ?_ ?_
  · intro i v w1 w2 hf hb
    split at hf
    · exact hf
    · trivial
  · simp only [Duties, Nat.reduceAdd]
    refine ⟨?_, ?_, ?_, ?_, trivial⟩
    case refine_1 =>
      intro D sp w' hD hW hdp hbx'
      (with_reducible refine asked_value (w1 := w') (v := .slice (some ⟨q3, 0, none⟩) 64 64) ?_ ?_ ?_)
      · first | (simp only [Region.wanted]; done) | simp [Region.wanted, yielded, Act.put, go_sem]
      · simp [execOp, Act.eval, go_sem]
      · exact ⟨rfl, rfl⟩
    case refine_2 =>
      intro D sp w' hD hW hdp hbx'
      (with_reducible refine asked_value (w1 := w') (v := .pointer (some ⟨q1, 1, none⟩)) ?_ ?_ ?_)
      · first | (simp only [Region.wanted]; done) | simp [Region.wanted, yielded, Act.put, go_sem]
      · simp [execOp, Act.eval, Act.put, go_sem]
      · exact ⟨rfl, rfl⟩
    case refine_3 =>
      intro D sp w' hD hW hdp hbx'
      have c1 := HC.out w' hbx'.2
      (with_reducible refine asked_value (w1 := w') (v := .slice p n c) ?_ ?_ ?_)
      · first | (simp only [Region.wanted]; done) | simp [Region.wanted, yielded, Act.put, go_sem]
      · simp [execOp, Act.eval, Act.put, go_sem, c1]
      · exact ⟨rfl, rfl⟩
    case refine_4 =>
      intro D sp w' hD hW hdp hbx'
      have hs0 : Blk w' q3 66 .u8 (plainN 0) := by have h9 := hbx'.1; rw [hD] at h9; exact h9
      (with_reducible refine HCP.out w' hs0 hbx'.2 _ (fun w2 j hr hs2 ho2 => ?_))
      (with_reducible refine asked_value (w1 := w2) (v := goInt j) ?_ ?_ ?_)
      · first | (simp only [Region.wanted]; done) | simp [Region.wanted, yielded, Act.put, go_sem]
      · simp [Act.eval, Act.put, go_sem, hr, Result.andThen_ok]
      · exact ⟨trivial, trivial, by simp; exact hs2, hbx'.2.trans ho2⟩
  · intro sp w7 hsp hbx'
    have hf3 : Blk w7 q3 66 .u8 (fitN bs) := hbx'.1
    have hf2 : Blk w7 q2 66 .u8 (plainN 0) := by
      unfold Blk
      rw [hbx'.2.block q2 HQ2.out.lt (by have := HLT.out; omega)]
      exact HQ2.out
    have HF3 : Hold _ := ⟨hf3⟩
    have HF2 : Hold _ := ⟨hf2⟩
    have HB7 : Hold (Below w.heap.size w w7) := ⟨HBL.out.trans (hbx'.2.below (by have := HLT.out; omega) HBL.out.size)⟩
    have hld : (loadVar 66 ⟨q3, 0, none⟩).run Try.prog w7 = .ok (.agg A) w7 := by
      rw [← HA.out]
      exact run_loadVar_row w7 q3 _ _ _ _ _ hf3 Try.underlying66 rfl (by rw [Try.info_face]; simp [fitN_len])
    clear hsp hbx' hf2 hf3
    simp only [frameOf, Nat.reduceAdd]
    generalize sp 3 = y3 at *
    go_simp
    go_wp2_with (first
      | (refine wpList_load_face rfl _ rfl _ rfl A hld ?_; refine Paused.out ?_))
    refine ⟨?_⟩
    go_wp2_with (refine wpList_store_face' rfl _ _ rfl _ rfl _ HF2.out (plainN_len 0) _ rfl _ (fitN_len bs) HA.out ?_; intro w8 hb8 hm8; refine Paused.out ?_)
    refine ⟨?_⟩
    have HB8 : Hold _ := ⟨hb8⟩
    have HM8 : Hold _ := ⟨hm8⟩
    clear hb8 hm8 hld
    go_wp2
    refine bodyPost_ret (v := .agg A) ?_ rfl ⟨rfl, HB7.out.trans (HM8.out.below (by have := HLT.out; omega) HB7.out.size)⟩
    have h9 := HB8.out
    unfold Blk at h9
    rw [HA.out] at h9
    exact results_cell_row (by rfl) _ _ _ _ _ _ _ (by rfl) h9 Try.underlying66 rfl (by rw [Try.info_face, ← HA.out]; simp [fitN_len])

/-- Scars in memory: their sectors, and their bytes. -/
structure ScarAt (w : World) (b o : Nat) (s : Int × List Nat) (q : Option Addr × Nat × Nat) : Prop where
  c0 : w.cell? ⟨b, o, none⟩ = some (.int .i64 s.1)
  c1 : w.cell? ⟨b, o + 1, none⟩ = some (.slice q.1 q.2.1 q.2.2)
  row : RowIn w .u8 q.1 q.2.1 q.2.2 s.2
  b8 : Bytes8 s.2
  wf : (Lit.int .i64 s.1).wf = true
structure ScarsIn (w : World) (p : Option Addr) (n c : Nat) (l : List (Int × List Nat)) (qs : List (Option Addr × Nat × Nat)) : Prop where
  len : n = l.length
  qlen : qs.length = l.length
  cap : n ≤ c
  max : c ≤ 9223372036854775807
  at_ : 0 < n → ∃ b off, p = some ⟨b, off, none⟩ ∧ b < w.heap.size ∧ ∀ (i : Nat) s q, l[i]? = some s → qs[i]? = some q → ScarAt w b (off + i * 2) s q
theorem cell_lt {w : World} {a : Addr} {v : Value} (h : w.cell? a = some v) : a.block < w.heap.size := by
  unfold World.cell? at h
  rcases Nat.lt_or_ge a.block w.heap.size with h1 | h1
  · exact h1
  · simp [Array.getElem?_eq_none h1] at h
theorem ScarAt.below {w w' : World} {b o : Nat} {s : Int × List Nat} {q : Option Addr × Nat × Nat} (h : ScarAt w b o s q) (hb : Below w.heap.size w w') : ScarAt w' b o s q :=
  ⟨(hb.cell (p := ⟨b, o, none⟩) (cell_lt h.c0)).trans h.c0, (hb.cell (p := ⟨b, o + 1, none⟩) (show b < w.heap.size from cell_lt h.c0)).trans h.c1, h.row.below hb, h.b8, h.wf⟩
theorem ScarsIn.below {w w' : World} {p : Option Addr} {n c : Nat} {l : List (Int × List Nat)} {qs : List (Option Addr × Nat × Nat)} (h : ScarsIn w p n c l qs) (hb : Below w.heap.size w w') : ScarsIn w' p n c l qs :=
  ⟨h.len, h.qlen, h.cap, h.max, fun h0 => let ⟨b, off, h1, h2, h3⟩ := h.at_ h0; ⟨b, off, h1, Nat.lt_of_lt_of_le h2 hb.size, fun i s q hs hq => (h3 i s q hs hq).below hb⟩⟩
theorem ScarsIn.nil (w : World) : ScarsIn w none 0 0 [] [] := ⟨rfl, rfl, Nat.le_refl _, by omega, fun h => by omega⟩

/-- Scars, with where their bytes lie. -/
def zipS (l : List (Int × List Nat)) (qs : List (Option Addr × Nat × Nat)) : List (Int × (List Nat × (Option Addr × Nat × Nat))) := (l.zip qs).map fun x => (x.1.1, x.1.2, x.2)
theorem zipS_fst {l : List (Int × List Nat)} {qs : List (Option Addr × Nat × Nat)} (h : qs.length = l.length) : (zipS l qs).map (fun s => (s.1, s.2.1)) = l := by
  unfold zipS
  rw [List.map_map]
  have : ((fun s : Int × (List Nat × (Option Addr × Nat × Nat)) => (s.1, s.2.1)) ∘ fun x : (Int × List Nat) × (Option Addr × Nat × Nat) => (x.1.1, x.1.2, x.2)) = Prod.fst := by funext x; rfl
  rw [this, List.map_fst_zip (by omega)]
theorem lastOf_zipS {l : List (Int × List Nat)} {qs : List (Option Addr × Nat × Nat)} (h : qs.length = l.length) (k : Int) : SM.lastOf l k = (SM.lastOf (zipS l qs) k).map (·.1) := by
  rw [← SM.lastOf_map, zipS_fst h]
theorem zipS_at {l : List (Int × List Nat)} {qs : List (Option Addr × Nat × Nat)} {i : Nat} {s : Int × List Nat} {q : Option Addr × Nat × Nat} (hs : l[i]? = some s) (hq : qs[i]? = some q) : (zipS l qs)[i]? = some (s.1, s.2, q) := by
  unfold zipS
  rw [List.getElem?_map, (List.getElem?_zip_eq_some (z := (s, q))).2 ⟨hs, hq⟩]; rfl
theorem zipS_len {l : List (Int × List Nat)} {qs : List (Option Addr × Nat × Nat)} (h : qs.length = l.length) : (zipS l qs).length = l.length := by simp [zipS, h]

/-- What the map of the last scars holds. -/
def lastV (L : List (Int × (List Nat × (Option Addr × Nat × Nat)))) (x : Int) : Option Value := (SM.lastOf L x).map fun y => .agg #[.int .i64 x, .slice y.2.1 y.2.2.1 y.2.2.2]

theorem lastV_snoc (L : List (Int × (List Nat × (Option Addr × Nat × Nat)))) (s : Int × (List Nat × (Option Addr × Nat × Nat))) : lastV (L ++ [s]) = fun y => if y = s.1 then some (.agg #[.int .i64 s.1, .slice s.2.2.1 s.2.2.2.1 s.2.2.2.2]) else lastV L y := by
  funext y
  unfold lastV
  rw [SM.lastOf_snoc]
  by_cases h : s.1 = y
  · subst h; simp
  · rw [if_neg h, if_neg (fun e => h e.symm)]

/-- A store into a map, at the operation. -/
theorem wpList_put_is {ops : Array Oper} {rest : List Oper} {o : Oper} {a : Act} {w : World} {Q : Exit → Act → World → Prop} (hg : o.guard = none) (mo xo vo : Operand) (t : TypeId) (hop : o.op = Op.mapUpdate t mo xo vo) (e : TypeId) (ht : Try.prog.underlying t = some (.map 3 e))
    (m N : Nat) (f : Int → Option Value) (hm : a.eval mo = .map (some m)) (h : MapIs w m N f) (hN : N < maxLen) (x : Int) (hx : a.eval xo = .int .i64 x) (hw : (Lit.int .i64 x).wf = true) (v : Value) (hv : a.eval vo = v)
    (hK : ∀ w', MapIs w' m (N + 1) (fun y => if y = x then some v else f y) → w.grownBy w' (some m) → wpList Try.prog ops Q rest (a.put o.dst undef) w') : wpList Try.prog ops Q (o :: rest) a w := by
  refine wpList_plain hg fun K' hK' => ?_
  obtain ⟨w', hr, h1, h2⟩ := h.put hN ht hw v
  unfold Oper.wp
  simp [execOp, hop, hm, hx, hv, hr, Result.andThen]
  exact hK' _ _ (hK w' h1 h2)

set_option maxHeartbeats 2000000 in
set_option maxRecDepth 100000 in
theorem last_calls {w : World} {p : Option Addr} {n c : Nat} {l : List (Int × List Nat)} {qs : List (Option Addr × Nat × Nat)} (h : ScarsIn w p n c l qs) : Calls Try.prog 30 #[.slice p n c] w fun e w' =>
    ∃ mm, e = .returned (.map (some mm)) ∧ w.heap.size ≤ mm ∧ MapIs w' mm n (lastV (zipS l qs)) ∧ Below w.heap.size w w' := by
  have HS : Hold _ := ⟨h⟩
  have hmax : n ≤ 9223372036854775807 := Nat.le_trans h.cap h.max
  have hmm := @run_makeMap Try.prog
  have hM0 := MapIs.made w
  have hb0 : Below w.heap.size w (w.alloc (.map #[] 0)) := (Below.refl _ _).alloc (Nat.le_refl _) _
  obtain ⟨w0, hw0⟩ : ∃ w0, w.alloc (.map #[] 0) = w0 := ⟨_, rfl⟩
  rw [hw0] at hM0 hb0
  obtain ⟨mm, hq⟩ : ∃ q, w.heap.size = q := ⟨_, rfl⟩
  rw [hq] at hM0
  have HQ : Hold _ := ⟨hq⟩
  have HM0 : Hold (MapIs w0 mm 0 (lastV ((zipS l qs).take 0))) := ⟨hM0⟩
  have HB0 : Hold _ := ⟨hb0⟩
  clear h hM0 hb0
  go_enter Try.func30, Try.ntmps30
  go_wp2
  clear hw0 hq hmm
  go_loopw [5, 9] (fun _ iv wr => ∃ (k : Nat), k ≤ n ∧ iv = .int .i64 k ∧ Hold (MapIs wr mm k (lastV ((zipS l qs).take k))) ∧ Hold (Below w.heap.size w wr)) (fun _ iv _ => n - (intOf iv).toNat)
  case atStart => exact ⟨0, by omega, rfl, HM0, HB0⟩
  case round =>
    obtain ⟨k, hk, rfl, HMk, HBk⟩ := hrel
    by_cases hkn : k < n
    · have hkn' : (k : Int) < n := by omega
      obtain ⟨s, hs⟩ : ∃ s, l[k]? = some s := ⟨l[k]'(by rw [← HS.out.len]; exact hkn), List.getElem?_eq_getElem _⟩
      obtain ⟨q, hq⟩ : ∃ q, qs[k]? = some q := ⟨qs[k]'(by rw [HS.out.qlen, ← HS.out.len]; exact hkn), List.getElem?_eq_getElem _⟩
      obtain ⟨b, off, rfl, hb, hat⟩ := (HS.out.below HBk.out).at_ (by omega)
      obtain ⟨c0, c1, hrow, h8, hwf⟩ := hat k s q hs hq
      have HWF : Hold _ := ⟨hwf⟩
      have HZ : Hold ((zipS l qs).take (k + 1) = (zipS l qs).take k ++ [(s.1, s.2, q)]) := ⟨by
        have h9 := zipS_at hs hq
        obtain ⟨h1, h2⟩ := List.getElem?_eq_some_iff.1 h9
        rw [List.take_succ_eq_append_getElem h1, h2]⟩
      obtain ⟨x, hx⟩ : ∃ x, s.1 = x := ⟨_, rfl⟩
      obtain ⟨q0, q1, q2⟩ := q
      simp only [hx] at c0 c1
      have HX : Hold _ := ⟨hx⟩
      have HWX : Hold ((Lit.int .i64 x).wf = true) := ⟨by rw [← hx]; exact hwf⟩
      clear hat hrow h8 hwf hs hq hx hb
      have HMB : Hold (MapIs (wr.alloc (.cells #[.int .i64 x, .slice q0 q1 q2] 58)) mm k (lastV ((zipS l qs).take k))) := ⟨HMk.out.below ((Below.refl _ _).alloc (Nat.le_refl _) _) HMk.out.lt⟩
      go_wp2_with (refine wpList_put_is rfl _ _ _ 68 rfl _ Try.underlying68 _ k _ rfl HMB.out (by unfold maxLen; omega) x rfl HWX.out (.agg #[.int .i64 x, .slice q0 q1 q2]) rfl ?_; intro w2 hm2 hg2; refine Paused.out ?_)
      have HM2 : Hold (MapIs w2 mm (k + 1) (lastV ((zipS l qs).take (k + 1)))) := ⟨by
        rw [HZ.out, lastV_snoc]
        show MapIs w2 mm (k + 1) (fun y => if y = s.1 then some (.agg #[.int .i64 s.1, .slice q0 q1 q2]) else lastV ((zipS l qs).take k) y)
        rw [HX.out]
        exact hm2⟩
      have HB2 : Hold (Below w.heap.size w w2) := ⟨(HBk.out.alloc HBk.out.size (.cells #[.int .i64 x, .slice q0 q1 q2] 58)).grown hg2 (by simp; have := HBk.out.size; omega) (fun j hj => by cases hj; have := HQ.out; omega)⟩
      clear hm2 hg2 c0 c1
      refine ⟨?_⟩
      go_wp2
      go_roundw
      case rel => exact ⟨k + 1, by omega, by go_num, HM2, HB2⟩
      case measure => simp [intOf]; omega
    · obtain rfl : k = n := by omega
      have hkn' : ¬ (k : Int) < k := by omega
      go_wp2
      go_ret
      have h9 := HMk.out
      rw [List.take_of_length_le (by rw [zipS_len HS.out.qlen, HS.out.len]; exact Nat.le_refl _)] at h9
      exact ⟨mm, rfl, by rw [HQ.out]; exact Nat.le_refl _, h9, HBk.out⟩

end Go.Proofs.Ytpodoleopebioaa
