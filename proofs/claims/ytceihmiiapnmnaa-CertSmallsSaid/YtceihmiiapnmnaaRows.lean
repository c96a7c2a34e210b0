/-
  No cell of these rows narrows 'for every input' (looked for: loops, veiled, ifaces, maps, wideKeys, modest, calm, conditions, laid).
  DERIVED. THE GIVEN ROWS OF THIS SEAT. 4 by the template 'for every input the law returns true; each argument reads behind the call as it read before'; 0 by the template 'total and deterministic' (their statements: YtceihmiiapnmnaaTotals.lean).
  GIVEN WITH THE SEED: the statements are not yours to turn. If you find one false, say at which input.
  Laid BY PROGRAM, IN A SANDBOX (cutbox-rows.mjs): the forced cells as the released guide's own fill.sh prints them over the translation a861450492a52126… (all of the seat's roots in one cut). By AI agents, Wed Nov 11 2026. No macro, syntax, notation, axiom, sorry.
-/
import Derived.Test.YtceihmiiapnmnaaChecked
import GoSem.Claim
import GoSem.ClaimJoined
import GoSem.ClaimMapViews
import Derived.JoinedTies
import Derived.KernelRfl
namespace Go.Proofs.Ytceihmiiapnmnaa
/- THE CELL 'sum', in the pinned program and in every row, IS THE sha256 OF THE DUMP (.gsa) THAT YtceihmiiapnmnaaProg.lean LOADS. Nothing in Lean hashes anything: it is a label: what it is worth is what the hold of that sum in a sandbox is worth. -/
noncomputable def Try.pinned : Pinned := { name := "ytceihmiiapnmnaa", sum := "a861450492a52126f1a3897355cf0964292655b0a997152dce6695226e8dc304", checked := Try.checked }
namespace Rows
def none {H : Type} : Left H := { results := [], args := [] }

/-- 'sacristylaw08.CertChecks': WHATEVER THE INPUT: true; the input reads as it did. -/
def certChecksSpec : ChangeSpec := { name := "certChecks", fn := fun _ => fun
  | [d1, d2] => { results := [.lit (.bool true)], args := [d1, d2] }
  | _ => none }
def certChecksRow : OpenClaim := { program := "ytceihmiiapnmnaa", sum := "a861450492a52126f1a3897355cf0964292655b0a997152dce6695226e8dc304", func := "sacristy/sacristylaw08.CertChecks", spec := "certChecks", unfollowed := true, recurses := true, named := ["math/bits.overflowError"], apart := false }
def CertChecksSaid : Prop := certChecksRow.holds Try.pinned (OpenSpec.ofChange certChecksSpec)

/-- ITS FALSE NEIGHBOUR: 'it returns false'. Refute it at one input. -/
def certChecksWrong : ChangeSpec := { name := "certChecks", fn := fun _ => fun
  | [d1, d2] => { results := [.lit (.bool false)], args := [d1, d2] }
  | _ => none }
def CertChecksWrongFalsely : Prop := certChecksRow.holds Try.pinned (OpenSpec.ofChange certChecksWrong)

/-- 'sacristylaw08.CertPrimes': WHATEVER THE INPUT: true; the input reads as it did. -/
def certPrimesSpec : ChangeSpec := { name := "certPrimes", fn := fun _ => fun
  | [d1, d2] => { results := [.lit (.bool true)], args := [d1, d2] }
  | _ => none }
def certPrimesRow : OpenClaim := { program := "ytceihmiiapnmnaa", sum := "a861450492a52126f1a3897355cf0964292655b0a997152dce6695226e8dc304", func := "sacristy/sacristylaw08.CertPrimes", spec := "certPrimes", unfollowed := true, recurses := true, named := ["math/bits.overflowError"], apart := false }
def CertPrimesSaid : Prop := certPrimesRow.holds Try.pinned (OpenSpec.ofChange certPrimesSpec)

/-- ITS FALSE NEIGHBOUR: 'it returns false'. Refute it at one input. -/
def certPrimesWrong : ChangeSpec := { name := "certPrimes", fn := fun _ => fun
  | [d1, d2] => { results := [.lit (.bool false)], args := [d1, d2] }
  | _ => none }
def CertPrimesWrongFalsely : Prop := certPrimesRow.holds Try.pinned (OpenSpec.ofChange certPrimesWrong)

/-- 'sacristylaw08.CertSmalls': WHATEVER THE INPUT: true; the input reads as it did. -/
def certSmallsSpec : ChangeSpec := { name := "certSmalls", fn := fun _ => fun
  | [d] => { results := [.lit (.bool true)], args := [d] }
  | _ => none }
def certSmallsRow : OpenClaim := { program := "ytceihmiiapnmnaa", sum := "a861450492a52126f1a3897355cf0964292655b0a997152dce6695226e8dc304", func := "sacristy/sacristylaw08.CertSmalls", spec := "certSmalls", unfollowed := true, recurses := true, named := ["math/bits.overflowError"], apart := false }
def CertSmallsSaid : Prop := certSmallsRow.holds Try.pinned (OpenSpec.ofChange certSmallsSpec)

/-- ITS FALSE NEIGHBOUR: 'it returns false'. Refute it at one input. -/
def certSmallsWrong : ChangeSpec := { name := "certSmalls", fn := fun _ => fun
  | [d] => { results := [.lit (.bool false)], args := [d] }
  | _ => none }
def CertSmallsWrongFalsely : Prop := certSmallsRow.holds Try.pinned (OpenSpec.ofChange certSmallsWrong)

/-- 'sacristylaw08.CertFronts': WHATEVER THE INPUT: true; the input reads as it did. -/
def certFrontsSpec : ChangeSpec := { name := "certFronts", fn := fun _ => fun
  | [d1, d2, d3] => { results := [.lit (.bool true)], args := [d1, d2, d3] }
  | _ => none }
def certFrontsRow : OpenClaim := { program := "ytceihmiiapnmnaa", sum := "a861450492a52126f1a3897355cf0964292655b0a997152dce6695226e8dc304", func := "sacristy/sacristylaw08.CertFronts", spec := "certFronts", unfollowed := true, recurses := true, named := ["math/bits.overflowError"], apart := false }
def CertFrontsSaid : Prop := certFrontsRow.holds Try.pinned (OpenSpec.ofChange certFrontsSpec)

/-- ITS FALSE NEIGHBOUR: 'it returns false'. Refute it at one input. -/
def certFrontsWrong : ChangeSpec := { name := "certFronts", fn := fun _ => fun
  | [d1, d2, d3] => { results := [.lit (.bool false)], args := [d1, d2, d3] }
  | _ => none }
def CertFrontsWrongFalsely : Prop := certFrontsRow.holds Try.pinned (OpenSpec.ofChange certFrontsWrong)

/- THE SECOND FORM. 'bulk': how many values and letters a reading holds, each counted each time it is reached (what is shared counts as often as it is met; a slice's spare places count too). A statement '..UptoSaid' is the law's where the arguments, and the package variables that the reading takes, are together of bulk at most 1048576: NARROWER than '..Said'. Prove '..Said' where nothing that the law and all that it calls make is longer than what came in: it says more and counts as full. Else prove '..UptoSaid'. A law counts once. -/
mutual
def uptoBulk {H : Type} : DataW H → Nat
  | .lit (.string bytes) => bytes.length + 1
  | .lit _ => 1
  | .nil => 1
  | .ptr d => uptoBulk d + 1
  | .slice elems spare => uptoBulkAll elems + uptoBulkAll spare + 1
  | .agg parts => uptoBulkAll parts + 1
  | .iface _ d => uptoBulk d + 1
  | .map entries => uptoBulkEntries entries + 1
  | .held _ => 1
def uptoBulkAll {H : Type} : List (DataW H) → Nat
  | [] => 0
  | d :: r => uptoBulk d + uptoBulkAll r
def uptoBulkEntries {H : Type} : List (Lit × DataW H) → Nat
  | [] => 0
  | x :: r => uptoBulkEntry x + uptoBulkEntries r
def uptoBulkEntry {H : Type} : Lit × DataW H → Nat
  | (.string bytes, d) => bytes.length + uptoBulk d + 1
  | (_, d) => uptoBulk d + 1
 end
def uptoSmall : (H : Type) → List (DataW H) → Bool := fun _ ds => decide (uptoBulkAll ds ≤ 1048576)
def OpenSpec.upto (s : _root_.Go.ChangeSpec) : _root_.Go.OpenSpec := { _root_.Go.OpenSpec.ofChange s with cond := some uptoSmall }

/-- 'sacristylaw08.CertChecks', WHERE WHAT IT READS IS OF BULK AT MOST 1048576: true; the input reads as it did. -/
def certChecksUptoRow : OpenClaim := { program := "ytceihmiiapnmnaa", sum := "a861450492a52126f1a3897355cf0964292655b0a997152dce6695226e8dc304", func := "sacristy/sacristylaw08.CertChecks", spec := "certChecks", unfollowed := true, recurses := true, named := ["math/bits.overflowError"], apart := false, narrowed := true }
def CertChecksUptoSaid : Prop := certChecksUptoRow.holds Try.pinned (OpenSpec.upto certChecksSpec)

/-- 'sacristylaw08.CertPrimes', WHERE WHAT IT READS IS OF BULK AT MOST 1048576: true; the input reads as it did. -/
def certPrimesUptoRow : OpenClaim := { program := "ytceihmiiapnmnaa", sum := "a861450492a52126f1a3897355cf0964292655b0a997152dce6695226e8dc304", func := "sacristy/sacristylaw08.CertPrimes", spec := "certPrimes", unfollowed := true, recurses := true, named := ["math/bits.overflowError"], apart := false, narrowed := true }
def CertPrimesUptoSaid : Prop := certPrimesUptoRow.holds Try.pinned (OpenSpec.upto certPrimesSpec)

/-- 'sacristylaw08.CertSmalls', WHERE WHAT IT READS IS OF BULK AT MOST 1048576: true; the input reads as it did. -/
def certSmallsUptoRow : OpenClaim := { program := "ytceihmiiapnmnaa", sum := "a861450492a52126f1a3897355cf0964292655b0a997152dce6695226e8dc304", func := "sacristy/sacristylaw08.CertSmalls", spec := "certSmalls", unfollowed := true, recurses := true, named := ["math/bits.overflowError"], apart := false, narrowed := true }
def CertSmallsUptoSaid : Prop := certSmallsUptoRow.holds Try.pinned (OpenSpec.upto certSmallsSpec)

/-- 'sacristylaw08.CertFronts', WHERE WHAT IT READS IS OF BULK AT MOST 1048576: true; the input reads as it did. -/
def certFrontsUptoRow : OpenClaim := { program := "ytceihmiiapnmnaa", sum := "a861450492a52126f1a3897355cf0964292655b0a997152dce6695226e8dc304", func := "sacristy/sacristylaw08.CertFronts", spec := "certFronts", unfollowed := true, recurses := true, named := ["math/bits.overflowError"], apart := false, narrowed := true }
def CertFrontsUptoSaid : Prop := certFrontsUptoRow.holds Try.pinned (OpenSpec.upto certFrontsSpec)

end Rows
end Go.Proofs.Ytceihmiiapnmnaa
