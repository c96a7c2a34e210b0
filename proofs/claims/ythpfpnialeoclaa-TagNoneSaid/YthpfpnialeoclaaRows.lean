/-
  No cell of these rows narrows 'for every input' (looked for: loops, veiled, ifaces, maps, wideKeys, modest, calm, conditions, laid).
  DERIVED. THE GIVEN ROWS OF THIS SEAT. 3 by the template 'for every input the law returns true; each argument reads behind the call as it read before'; 0 by the template 'total and deterministic' (their statements: YthpfpnialeoclaaTotals.lean).
  GIVEN WITH THE SEED: the statements are not yours to turn. If you find one false, say at which input.
  Laid BY PROGRAM, IN A SANDBOX (cutbox-rows.mjs): the forced cells as the released guide's own fill.sh prints them over the translation 32c08ecb633751d1… (all of the seat's roots in one cut). By AI agents, Wed Nov 11 2026. No macro, syntax, notation, axiom, sorry.
-/
import Derived.Test.YthpfpnialeoclaaChecked
import GoSem.Claim
import GoSem.ClaimJoined
import GoSem.ClaimMapViews
import Derived.JoinedTies
import Derived.KernelRfl
namespace Go.Proofs.Ythpfpnialeoclaa
/- THE CELL 'sum', in the pinned program and in every row, IS THE sha256 OF THE DUMP (.gsa) THAT YthpfpnialeoclaaProg.lean LOADS. Nothing in Lean hashes anything: it is a label: what it is worth is what the hold of that sum in a sandbox is worth. -/
noncomputable def Try.pinned : Pinned := { name := "ythpfpnialeoclaa", sum := "32c08ecb633751d18a48cf3e1c2cf9bc4cdedec0b63c9b459dff1b4ac5c002cc", checked := Try.checked }
namespace Rows
def none {H : Type} : Left H := { results := [], args := [] }

/-- 'sacristylaw06.TagTags': WHATEVER THE INPUT: true; the input reads as it did. -/
def tagTagsSpec : ChangeSpec := { name := "tagTags", fn := fun _ => fun
  | [d1, d2] => { results := [.lit (.bool true)], args := [d1, d2] }
  | _ => none }
def tagTagsRow : OpenClaim := { program := "ythpfpnialeoclaa", sum := "32c08ecb633751d18a48cf3e1c2cf9bc4cdedec0b63c9b459dff1b4ac5c002cc", func := "sacristy/sacristylaw06.TagTags", spec := "tagTags", unfollowed := true, recurses := true, named := ["math/bits.overflowError"], apart := false }
def TagTagsSaid : Prop := tagTagsRow.holds Try.pinned (OpenSpec.ofChange tagTagsSpec)

/-- ITS FALSE NEIGHBOUR: 'it returns false'. Refute it at one input. -/
def tagTagsWrong : ChangeSpec := { name := "tagTags", fn := fun _ => fun
  | [d1, d2] => { results := [.lit (.bool false)], args := [d1, d2] }
  | _ => none }
def TagTagsWrongFalsely : Prop := tagTagsRow.holds Try.pinned (OpenSpec.ofChange tagTagsWrong)

/-- 'sacristylaw06.TagNone': WHATEVER THE INPUT: true; the input reads as it did. -/
def tagNoneSpec : ChangeSpec := { name := "tagNone", fn := fun _ => fun
  | [d1, d2] => { results := [.lit (.bool true)], args := [d1, d2] }
  | _ => none }
def tagNoneRow : OpenClaim := { program := "ythpfpnialeoclaa", sum := "32c08ecb633751d18a48cf3e1c2cf9bc4cdedec0b63c9b459dff1b4ac5c002cc", func := "sacristy/sacristylaw06.TagNone", spec := "tagNone", unfollowed := true, recurses := true, named := ["math/bits.overflowError"], apart := false }
def TagNoneSaid : Prop := tagNoneRow.holds Try.pinned (OpenSpec.ofChange tagNoneSpec)

/-- ITS FALSE NEIGHBOUR: 'it returns false'. Refute it at one input. -/
def tagNoneWrong : ChangeSpec := { name := "tagNone", fn := fun _ => fun
  | [d1, d2] => { results := [.lit (.bool false)], args := [d1, d2] }
  | _ => none }
def TagNoneWrongFalsely : Prop := tagNoneRow.holds Try.pinned (OpenSpec.ofChange tagNoneWrong)

/-- 'sacristylaw06.TagAdds': WHATEVER THE INPUT: true; the input reads as it did. -/
def tagAddsSpec : ChangeSpec := { name := "tagAdds", fn := fun _ => fun
  | [d1, d2, d3, d4] => { results := [.lit (.bool true)], args := [d1, d2, d3, d4] }
  | _ => none }
def tagAddsRow : OpenClaim := { program := "ythpfpnialeoclaa", sum := "32c08ecb633751d18a48cf3e1c2cf9bc4cdedec0b63c9b459dff1b4ac5c002cc", func := "sacristy/sacristylaw06.TagAdds", spec := "tagAdds", unfollowed := true, recurses := true, named := ["math/bits.overflowError"], apart := false }
def TagAddsSaid : Prop := tagAddsRow.holds Try.pinned (OpenSpec.ofChange tagAddsSpec)

/-- ITS FALSE NEIGHBOUR: 'it returns false'. Refute it at one input. -/
def tagAddsWrong : ChangeSpec := { name := "tagAdds", fn := fun _ => fun
  | [d1, d2, d3, d4] => { results := [.lit (.bool false)], args := [d1, d2, d3, d4] }
  | _ => none }
def TagAddsWrongFalsely : Prop := tagAddsRow.holds Try.pinned (OpenSpec.ofChange tagAddsWrong)

/- THE SECOND FORM. 'bulk': how many values and letters a reading holds, each counted each time it is reached (what is shared counts as often as it is met; a slice's spare places count too). A statement '..UptoSaid' is the law's where the arguments, and the package variables that the reading takes, are together of bulk at most 1048576: NARROWER than '..Said'. Prove '..Said' where nothing that the law and all that it calls make is longer than what came in: it says more and counts as full. Else prove '..UptoSaid'. A law counts once. -/
mutual
def uptoBulk {H : Type} : DataW H → Nat
  | .lit (.string bytes) => bytes.length + 1
  | .lit _ => 1
  | .nil => 1
  | .ptr d => uptoBulk d + 1
  | .slice elems spare => uptoBulkAll elems + uptoBulkAll spare + 1
  | .agg parts => uptoBulkAll parts + 1
  | .iface _ d => uptoBulk d + 1
  | .map entries => uptoBulkEntries entries + 1
  | .held _ => 1
def uptoBulkAll {H : Type} : List (DataW H) → Nat
  | [] => 0
  | d :: r => uptoBulk d + uptoBulkAll r
def uptoBulkEntries {H : Type} : List (Lit × DataW H) → Nat
  | [] => 0
  | x :: r => uptoBulkEntry x + uptoBulkEntries r
def uptoBulkEntry {H : Type} : Lit × DataW H → Nat
  | (.string bytes, d) => bytes.length + uptoBulk d + 1
  | (_, d) => uptoBulk d + 1
 end
def uptoSmall : (H : Type) → List (DataW H) → Bool := fun _ ds => decide (uptoBulkAll ds ≤ 1048576)
def OpenSpec.upto (s : _root_.Go.ChangeSpec) : _root_.Go.OpenSpec := { _root_.Go.OpenSpec.ofChange s with cond := some uptoSmall }

/-- 'sacristylaw06.TagTags', WHERE WHAT IT READS IS OF BULK AT MOST 1048576: true; the input reads as it did. -/
def tagTagsUptoRow : OpenClaim := { program := "ythpfpnialeoclaa", sum := "32c08ecb633751d18a48cf3e1c2cf9bc4cdedec0b63c9b459dff1b4ac5c002cc", func := "sacristy/sacristylaw06.TagTags", spec := "tagTags", unfollowed := true, recurses := true, named := ["math/bits.overflowError"], apart := false, narrowed := true }
def TagTagsUptoSaid : Prop := tagTagsUptoRow.holds Try.pinned (OpenSpec.upto tagTagsSpec)

/-- 'sacristylaw06.TagNone', WHERE WHAT IT READS IS OF BULK AT MOST 1048576: true; the input reads as it did. -/
def tagNoneUptoRow : OpenClaim := { program := "ythpfpnialeoclaa", sum := "32c08ecb633751d18a48cf3e1c2cf9bc4cdedec0b63c9b459dff1b4ac5c002cc", func := "sacristy/sacristylaw06.TagNone", spec := "tagNone", unfollowed := true, recurses := true, named := ["math/bits.overflowError"], apart := false, narrowed := true }
def TagNoneUptoSaid : Prop := tagNoneUptoRow.holds Try.pinned (OpenSpec.upto tagNoneSpec)

/-- 'sacristylaw06.TagAdds', WHERE WHAT IT READS IS OF BULK AT MOST 1048576: true; the input reads as it did. -/
def tagAddsUptoRow : OpenClaim := { program := "ythpfpnialeoclaa", sum := "32c08ecb633751d18a48cf3e1c2cf9bc4cdedec0b63c9b459dff1b4ac5c002cc", func := "sacristy/sacristylaw06.TagAdds", spec := "tagAdds", unfollowed := true, recurses := true, named := ["math/bits.overflowError"], apart := false, narrowed := true }
def TagAddsUptoSaid : Prop := tagAddsUptoRow.holds Try.pinned (OpenSpec.upto tagAddsSpec)

end Rows
end Go.Proofs.Ythpfpnialeoclaa
