/- What the tag of a message is, as the laws use it; the chapter's example lives. -/
import Derived.Test.YthpfpnialeoclaaGen
import Derived.Laws.CopyOwn
import Derived.WalkSmall
import Derived.Test.YthpfpnialeoclaaOwn
import Derived.Lib.SlBytesConst
import Derived.Test.YthpfpnialeoclaaTagM
import Derived.Test.YthpfpnialeoclaaFlow
/-! Worlds that are as they were but for one block; words for walks. Of no package of the program. -/
namespace Go.Proofs.Ythpfpnialeoclaa
open Go Go.RowKit

/-- Put away: no search looks into it. -/
structure Hold (p : Prop) : Prop where
  out : p

/-- The walk halts here. -/
structure Paused (p : Prop) : Prop where
  out : p

/-- As before, but for one block. -/
structure But (g : Nat) (w w' : World) : Prop where
  os : w'.os = w.os
  tape : w'.tape = w.tape
  output : w'.output = w.output
  size : w.heap.size ≤ w'.heap.size
  block : ∀ k, k < w.heap.size → k ≠ g → w'.heap[k]? = w.heap[k]?

theorem But.refl (g : Nat) (w : World) : But g w w := ⟨rfl, rfl, rfl, Nat.le_refl _, fun _ _ _ => rfl⟩
theorem But.trans {g : Nat} {a b c : World} (h : But g a b) (k : But g b c) : But g a c :=
  ⟨k.os.trans h.os, k.tape.trans h.tape, k.output.trans h.output, Nat.le_trans h.size k.size, fun i hi hn => (k.block i (Nat.lt_of_lt_of_le hi h.size) hn).trans (h.block i hi hn)⟩
theorem But.of {g : Nat} {w w' : World} (h : Below w.heap.size w w') : But g w w' := ⟨h.os, h.tape, h.output, h.size, fun k hk _ => h.block k hk⟩
theorem But.below {g : Nat} {w w' : World} (h : But g w w') {B : Nat} (hg : B ≤ g) (hB : B ≤ w.heap.size) : Below B w w' :=
  ⟨h.os, h.tape, h.output, h.size, fun k hk => h.block k (by omega) (by omega)⟩
theorem But.setCell {g : Nat} (w : World) (o : Nat) (u : Value) : But g w (w.setCell ⟨g, o, none⟩ u) := ⟨rfl, rfl, rfl, by simp [World.setCell], fun k _ hn => Below.heap_setCell _ _ _ _ hn⟩
theorem But.drew {g : Nat} {w w' : World} (h : But g w w') : But g w w'.drew := ⟨h.os, h.tape, h.output, h.size, h.block⟩
theorem But.cell {g : Nat} {w w' : World} (h : But g w w') {p : Addr} (hp : p.block < w.heap.size) (hn : p.block ≠ g) : w'.cell? p = w.cell? p := World.cell?_of_block (w := w) (h.block p.block hp hn)

theorem calls_at {P : Program} {f : FuncId} {args : Array Value} {w w1 : World} {Q : Ending → World → Prop} (h : w = w1) (k : Calls P f args w1 Q) : Calls P f args w Q := h ▸ k
theorem bstepS {a b c : World} (h : Below a.heap.size a b) (k : Below b.heap.size b c) : Below a.heap.size a c := h.trans (k.mono h.size)
end Go.Proofs.Ythpfpnialeoclaa

/-! Bytes of texts that stand in the program. -/
namespace Go.Proofs.Ythpfpnialeoclaa
open Go Go.RowKit

/-- The bytes of a text that stands in the program: their row is marked behind its end. -/
theorem marked_row (w : World) (bs : List Nat) (f : Nat × Nat) (hm : bs.length ≤ 9223372036854775807) : RowIn (w.alloc (.cells (bs.map fun (x : Nat) => Value.int .u8 (x : Int)).toArray 5 f)) .u8 (some ⟨w.heap.size, 0, none⟩) bs.length bs.length bs := by
  have hl : (w.alloc (.cells (bs.map fun (x : Nat) => Value.int .u8 (x : Int)).toArray 5 f)).heap[w.heap.size]? = some (.cells (bs.map fun (x : Nat) => Value.int .u8 (x : Int)).toArray 5 f) := by
    show (w.heap.push _)[w.heap.size]? = _
    simp
  refine ⟨rfl, Nat.le_refl _, hm, fun _ => ⟨rfl, Nat.le_refl _, hm, .inr ⟨w.heap.size, 0, rfl, (Array.getElem?_eq_some_iff.1 hl).1, fun i x hx => ?_⟩⟩⟩
  unfold World.cell?
  simp only [hl]
  simp [hx]


/-- []byte of such a text: the row behind another one. -/
theorem mark_behind (w : World) (X : Obj) (C : Array Value) (n c : Nat) : (convert 22 22 (.slice (some ⟨w.heap.size + 1, 0, none⟩) n c)).run Try.prog ((w.alloc X).alloc (.cells C 5)) = .ok (.slice (some ⟨w.heap.size + 1, 0, none⟩) n c) ((w.alloc X).alloc (.cells C 5 (C.size, C.size + 1))) := by
  have h := Lib.run_convert_bytes_const (P := Try.prog) (w.alloc X) 22 5 C n c Try.underlying22 Try.underlying5
  rwa [show (w.alloc X).heap.size = w.heap.size + 1 from by simp] at h
end Go.Proofs.Ythpfpnialeoclaa

namespace Go.Proofs.Ythpfpnialeoclaa
open Go Go.RowKit Go.Proofs.Ythpfpnialeoclaa.Flow

/-- A tag as an answer. -/
def GivesTag (key xs : List Nat) (w : World) (e : Ending) (w' : World) : Prop := ∃ v, e = .returned (.tuple #[v, .int .i64 0]) ∧ OwnIs w.heap.size (tagOf key xs) v w' ∧ Below w.heap.size w w'
def GivesNoTag (w : World) (e : Ending) (w' : World) : Prop := e = .returned (.tuple #[.slice none 0 0, .int .i64 1]) ∧ Below w.heap.size w w'
/-- What the program's call does. -/
def OfDoes : Prop := ∀ (w : World) (pk : Option Addr) (nk ck : Nat) (key : List Nat) (pb : Option Addr) (nb cb : Nat) (xs : List Nat),
  RowIn w .u8 pk nk ck key → Bytes8 key → (pk = none → ck = 0) → RowIn w .u8 pb nb cb xs → Bytes8 xs → (pb = none → cb = 0) → nb ≤ 1000 →
  Calls Try.prog 7 #[.slice pk nk ck, .slice pb nb cb] w fun e w' => (nk = 32 → GivesTag key xs w e w') ∧ (nk ≠ 32 → GivesNoTag w e w')

def exKey : List Nat := [133, 214, 190, 120, 87, 85, 109, 51, 127, 68, 82, 254, 66, 213, 6, 168, 1, 3, 128, 138, 251, 13, 178, 253, 74, 191, 246, 175, 65, 73, 245, 27]
def exMsg : List Nat := [67, 114, 121, 112, 116, 111, 103, 114, 97, 112, 104, 105, 99, 32, 70, 111, 114, 117, 109, 32, 82, 101, 115, 101, 97, 114, 99, 104, 32, 71, 114, 111, 117, 112]
set_option maxRecDepth 100000 in
theorem ex_tag : (tagOf exKey exMsg)[0]? = some 168 ∧ (tagOf exKey exMsg)[15]? = some 169 := by
  have h : tagOf exKey exMsg = [168, 6, 29, 193, 48, 81, 54, 198, 194, 43, 139, 175, 12, 1, 39, 169] := by kernel_rfl
  rw [h]; exact ⟨rfl, rfl⟩

set_option maxHeartbeats 4000000 in
set_option maxRecDepth 100000 in
theorem lives_calls (hof : OfDoes) (w : World) : Calls Try.prog 6 #[] w fun e w' => e = .returned (.bool true) ∧ Below w.heap.size w w' := by
  obtain ⟨L1, hL1⟩ : ∃ L, (exKey.map fun (x : Nat) => Value.int .u8 (x : Int)).toArray = L := ⟨_, rfl⟩
  obtain ⟨L2, hL2⟩ : ∃ L, (exMsg.map fun (x : Nat) => Value.int .u8 (x : Int)).toArray = L := ⟨_, rfl⟩
  have hk := lit_row w exKey (by decide)
  have hm := marked_row (w.alloc (.cells L1 5)) exMsg (34, 35) (by decide)
  have hb1 : Below w.heap.size w (w.alloc (.cells L1 5)) := (Below.refl _ _).alloc (Nat.le_refl _) _
  have hb2 : Below (w.alloc (.cells L1 5)).heap.size (w.alloc (.cells L1 5)) ((w.alloc (.cells L1 5)).alloc (.cells L2 5 (34, 35))) := (Below.refl _ _).alloc (Nat.le_refl _) _
  rw [hL1] at hk
  rw [hL2] at hm
  have hk2 := hk.below hb2
  have HB : Hold _ := ⟨bstepS hb1 hb2⟩
  rw [show (w.alloc (.cells L1 5)).heap.size = w.heap.size + 1 from by simp] at hm
  have HC : Hold _ := ⟨hof _ _ _ _ _ _ _ _ _ hk2 (by unfold Bytes8 exKey; decide) (fun h => nomatch h) hm (by unfold Bytes8 exMsg; decide) (fun h => nomatch h) (by decide)⟩
  subst hL1
  subst hL2
  clear hk hm hb1 hb2 hk2
  have kc := mark_behind w
  go_enter Try.func6, Try.ntmps6
  go_wp2_with fail
  refine HC.out.mono ?_
  rintro e w1 ⟨hy, hno⟩
  clear hno
  obtain ⟨v, rfl, hv, hb⟩ := hy rfl
  refine hv.elim fun p c hv hr hn hz => ?_
  rw [tagOf_length] at hv hr
  obtain ⟨b, off, rfl, hbl, hc⟩ := (hr.row (by omega)).pos (by omega)
  have c0 : w1.cell? ⟨b, off, none⟩ = some (.int .u8 168) := hc 0 168 ex_tag.1
  have c1 : w1.cell? ⟨b, off + 15, none⟩ = some (.int .u8 169) := hc 15 169 ex_tag.2
  have HBB : Hold _ := ⟨bstepS HB.out hb⟩
  have hrm := hr.cap
  have hrx := hr.max
  subst hv
  clear hy HB hv hr hc HC hb hn hz kc
  go_wp2
  go_ret
  exact ⟨rfl, HBB.out⟩
end Go.Proofs.Ythpfpnialeoclaa
