/-
  No cell of these rows narrows 'for every input' (looked for: loops, veiled, ifaces, maps, wideKeys, modest, calm, conditions, laid).
  DERIVED. THE GIVEN ROWS OF THIS SEAT. 4 by the template 'for every input the law returns true; each argument reads behind the call as it read before'; 0 by the template 'total and deterministic' (their statements: YtpodoleopebioaaTotals.lean).
  GIVEN WITH THE SEED: the statements are not yours to turn. If you find one false, say at which input.
  Laid BY PROGRAM, IN A SANDBOX (cutbox-rows.mjs): the forced cells as the released guide's own fill.sh prints them over the translation ca892b505d3a1e05… (all of the seat's roots in one cut). By AI agents, Wed Nov 11 2026. No macro, syntax, notation, axiom, sorry.
-/
import Derived.Test.YtpodoleopebioaaChecked
import GoSem.Claim
import GoSem.ClaimJoined
import GoSem.ClaimMapViews
import Derived.JoinedTies
import Derived.KernelRfl
namespace Go.Proofs.Ytpodoleopebioaa
/- THE CELL 'sum', in the pinned program and in every row, IS THE sha256 OF THE DUMP (.gsa) THAT YtpodoleopebioaaProg.lean LOADS. Nothing in Lean hashes anything: it is a label: what it is worth is what the hold of that sum in a sandbox is worth. -/
noncomputable def Try.pinned : Pinned := { name := "ytpodoleopebioaa", sum := "ca892b505d3a1e0519e57eed324b7fbca6cbba24ddf0b42c069e8415860198d7", checked := Try.checked }
namespace Rows
def none {H : Type} : Left H := { results := [], args := [] }

/-- 'sacristylaw15.SlabPlays': WHATEVER THE INPUT: true; the input reads as it did. -/
def slabPlaysSpec : ChangeSpec := { name := "slabPlays", fn := fun _ => fun
  | [d1, d2] => { results := [.lit (.bool true)], args := [d1, d2] }
  | _ => none }
def slabPlaysRow : OpenClaim := { program := "ytpodoleopebioaa", sum := "ca892b505d3a1e0519e57eed324b7fbca6cbba24ddf0b42c069e8415860198d7", func := "sacristy/sacristylaw15.SlabPlays", spec := "slabPlays", inPlace := ["maps.clone"], unfollowed := true, recurses := true, apart := false }
def SlabPlaysSaid : Prop := slabPlaysRow.holds Try.pinned (OpenSpec.ofChange slabPlaysSpec)

/-- ITS FALSE NEIGHBOUR: 'it returns false'. Refute it at one input. -/
def slabPlaysWrong : ChangeSpec := { name := "slabPlays", fn := fun _ => fun
  | [d1, d2] => { results := [.lit (.bool false)], args := [d1, d2] }
  | _ => none }
def SlabPlaysWrongFalsely : Prop := slabPlaysRow.holds Try.pinned (OpenSpec.ofChange slabPlaysWrong)

/-- 'sacristylaw15.SlabLasts': WHATEVER THE INPUT: true; the input reads as it did. -/
def slabLastsSpec : ChangeSpec := { name := "slabLasts", fn := fun _ => fun
  | [d1, d2, d3] => { results := [.lit (.bool true)], args := [d1, d2, d3] }
  | _ => none }
def slabLastsRow : OpenClaim := { program := "ytpodoleopebioaa", sum := "ca892b505d3a1e0519e57eed324b7fbca6cbba24ddf0b42c069e8415860198d7", func := "sacristy/sacristylaw15.SlabLasts", spec := "slabLasts", unfollowed := true, recurses := true, apart := false }
def SlabLastsSaid : Prop := slabLastsRow.holds Try.pinned (OpenSpec.ofChange slabLastsSpec)

/-- ITS FALSE NEIGHBOUR: 'it returns false'. Refute it at one input. -/
def slabLastsWrong : ChangeSpec := { name := "slabLasts", fn := fun _ => fun
  | [d1, d2, d3] => { results := [.lit (.bool false)], args := [d1, d2, d3] }
  | _ => none }
def SlabLastsWrongFalsely : Prop := slabLastsRow.holds Try.pinned (OpenSpec.ofChange slabLastsWrong)

/-- 'sacristylaw15.SlabCounts': WHATEVER THE INPUT: true; the input reads as it did. -/
def slabCountsSpec : ChangeSpec := { name := "slabCounts", fn := fun _ => fun
  | [d1, d2] => { results := [.lit (.bool true)], args := [d1, d2] }
  | _ => none }
def slabCountsRow : OpenClaim := { program := "ytpodoleopebioaa", sum := "ca892b505d3a1e0519e57eed324b7fbca6cbba24ddf0b42c069e8415860198d7", func := "sacristy/sacristylaw15.SlabCounts", spec := "slabCounts", unfollowed := true, recurses := true, apart := false }
def SlabCountsSaid : Prop := slabCountsRow.holds Try.pinned (OpenSpec.ofChange slabCountsSpec)

/-- ITS FALSE NEIGHBOUR: 'it returns false'. Refute it at one input. -/
def slabCountsWrong : ChangeSpec := { name := "slabCounts", fn := fun _ => fun
  | [d1, d2] => { results := [.lit (.bool false)], args := [d1, d2] }
  | _ => none }
def SlabCountsWrongFalsely : Prop := slabCountsRow.holds Try.pinned (OpenSpec.ofChange slabCountsWrong)

/-- 'sacristylaw15.SlabScars': WHATEVER THE INPUT: true; the input reads as it did. -/
def slabScarsSpec : ChangeSpec := { name := "slabScars", fn := fun _ => fun
  | [d1, d2, d3, d4, d5, d6] => { results := [.lit (.bool true)], args := [d1, d2, d3, d4, d5, d6] }
  | _ => none }
def slabScarsRow : OpenClaim := { program := "ytpodoleopebioaa", sum := "ca892b505d3a1e0519e57eed324b7fbca6cbba24ddf0b42c069e8415860198d7", func := "sacristy/sacristylaw15.SlabScars", spec := "slabScars", unfollowed := true, recurses := true, apart := false }
def SlabScarsSaid : Prop := slabScarsRow.holds Try.pinned (OpenSpec.ofChange slabScarsSpec)

/-- ITS FALSE NEIGHBOUR: 'it returns false'. Refute it at one input. -/
def slabScarsWrong : ChangeSpec := { name := "slabScars", fn := fun _ => fun
  | [d1, d2, d3, d4, d5, d6] => { results := [.lit (.bool false)], args := [d1, d2, d3, d4, d5, d6] }
  | _ => none }
def SlabScarsWrongFalsely : Prop := slabScarsRow.holds Try.pinned (OpenSpec.ofChange slabScarsWrong)

/- THE SECOND FORM. 'bulk': how many values and letters a reading holds, each counted each time it is reached (what is shared counts as often as it is met; a slice's spare places count too). A statement '..UptoSaid' is the law's where the arguments, and the package variables that the reading takes, are together of bulk at most 1048576: NARROWER than '..Said'. Prove '..Said' where nothing that the law and all that it calls make is longer than what came in: it says more and counts as full. Else prove '..UptoSaid'. A law counts once. -/
mutual
def uptoBulk {H : Type} : DataW H → Nat
  | .lit (.string bytes) => bytes.length + 1
  | .lit _ => 1
  | .nil => 1
  | .ptr d => uptoBulk d + 1
  | .slice elems spare => uptoBulkAll elems + uptoBulkAll spare + 1
  | .agg parts => uptoBulkAll parts + 1
  | .iface _ d => uptoBulk d + 1
  | .map entries => uptoBulkEntries entries + 1
  | .held _ => 1
def uptoBulkAll {H : Type} : List (DataW H) → Nat
  | [] => 0
  | d :: r => uptoBulk d + uptoBulkAll r
def uptoBulkEntries {H : Type} : List (Lit × DataW H) → Nat
  | [] => 0
  | x :: r => uptoBulkEntry x + uptoBulkEntries r
def uptoBulkEntry {H : Type} : Lit × DataW H → Nat
  | (.string bytes, d) => bytes.length + uptoBulk d + 1
  | (_, d) => uptoBulk d + 1
 end
def uptoSmall : (H : Type) → List (DataW H) → Bool := fun _ ds => decide (uptoBulkAll ds ≤ 1048576)
def OpenSpec.upto (s : _root_.Go.ChangeSpec) : _root_.Go.OpenSpec := { _root_.Go.OpenSpec.ofChange s with cond := some uptoSmall }

/-- 'sacristylaw15.SlabPlays', WHERE WHAT IT READS IS OF BULK AT MOST 1048576: true; the input reads as it did. -/
def slabPlaysUptoRow : OpenClaim := { program := "ytpodoleopebioaa", sum := "ca892b505d3a1e0519e57eed324b7fbca6cbba24ddf0b42c069e8415860198d7", func := "sacristy/sacristylaw15.SlabPlays", spec := "slabPlays", inPlace := ["maps.clone"], unfollowed := true, recurses := true, apart := false, narrowed := true }
def SlabPlaysUptoSaid : Prop := slabPlaysUptoRow.holds Try.pinned (OpenSpec.upto slabPlaysSpec)

/-- 'sacristylaw15.SlabLasts', WHERE WHAT IT READS IS OF BULK AT MOST 1048576: true; the input reads as it did. -/
def slabLastsUptoRow : OpenClaim := { program := "ytpodoleopebioaa", sum := "ca892b505d3a1e0519e57eed324b7fbca6cbba24ddf0b42c069e8415860198d7", func := "sacristy/sacristylaw15.SlabLasts", spec := "slabLasts", unfollowed := true, recurses := true, apart := false, narrowed := true }
def SlabLastsUptoSaid : Prop := slabLastsUptoRow.holds Try.pinned (OpenSpec.upto slabLastsSpec)

/-- 'sacristylaw15.SlabCounts', WHERE WHAT IT READS IS OF BULK AT MOST 1048576: true; the input reads as it did. -/
def slabCountsUptoRow : OpenClaim := { program := "ytpodoleopebioaa", sum := "ca892b505d3a1e0519e57eed324b7fbca6cbba24ddf0b42c069e8415860198d7", func := "sacristy/sacristylaw15.SlabCounts", spec := "slabCounts", unfollowed := true, recurses := true, apart := false, narrowed := true }
def SlabCountsUptoSaid : Prop := slabCountsUptoRow.holds Try.pinned (OpenSpec.upto slabCountsSpec)

/-- 'sacristylaw15.SlabScars', WHERE WHAT IT READS IS OF BULK AT MOST 1048576: true; the input reads as it did. -/
def slabScarsUptoRow : OpenClaim := { program := "ytpodoleopebioaa", sum := "ca892b505d3a1e0519e57eed324b7fbca6cbba24ddf0b42c069e8415860198d7", func := "sacristy/sacristylaw15.SlabScars", spec := "slabScars", unfollowed := true, recurses := true, apart := false, narrowed := true }
def SlabScarsUptoSaid : Prop := slabScarsUptoRow.holds Try.pinned (OpenSpec.upto slabScarsSpec)

end Rows
end Go.Proofs.Ytpodoleopebioaa
