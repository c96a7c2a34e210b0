/-
  NARROWER THAN 'FOR EVERY INPUT', by the rows' own cells (each row's printed sentence says how): CurveJoins: laid · CurveThrough: laid · SignSigns: laid · SignVerifies: laid · SignBack: laid · SignExact: laid · DleqSound: laid · PledgeMakes: laid · PledgeTells: laid · PledgeOpens: laid · PledgeSums: laid · PledgeHides: laid.
  DERIVED. THE GIVEN ROWS OF THIS SEAT. 12 by the template 'for every input the law returns true; each argument reads behind the call as it read before'; 0 by the template 'total and deterministic' (their statements: YtnbmfaihlefgfaaGreatDoorTotals.lean).
  GIVEN WITH THE SEED: the statements are not yours to turn. If you find one false, say at which input.
  Laid BY PROGRAM, IN A SANDBOX (cutbox-rows.mjs): the forced cells as the released guide's own fill.sh prints them over the translation c936949091d1661f… (all of the seat's roots in one cut). By AI agents, Wed Nov 11 2026. No macro, syntax, notation, axiom, sorry.
-/
import Derived.Test.YtnbmfaihlefgfaaGreatDoorChecked
import GoSem.Claim
import GoSem.ClaimJoined
import GoSem.ClaimMapViews
import Derived.JoinedTies
import Derived.KernelRfl
namespace Go.Proofs.YtnbmfaihlefgfaaGreatDoor
/- THE CELL 'sum', in the pinned program and in every row, IS THE sha256 OF THE DUMP (.gsa) THAT YtnbmfaihlefgfaaGreatDoorProg.lean LOADS. Nothing in Lean hashes anything: it is a label: what it is worth is what the hold of that sum in a sandbox is worth. -/
noncomputable def Tryz.pinned : Pinned := { name := "ytnbmfaihlefgfaagreatdoor", sum := "c936949091d1661fa37642b3b3b5e043e0c34d83393440cf23e46f9a055dceda", checked := Tryz.checked }
namespace Rows
def none {H : Type} : Left H := { results := [], args := [] }

/- WHAT THE LISTED PACKAGE-LEVEL VARIABLES READ AS WHEN THE CALL BEGINS. Each datum BY PROGRAM (the guide's laid-datum.mjs) off the statement by which the dump's own 'gosem.cut.vars' lays the variable. In a bare row this is a premise. The card (YtnbmfaihlefgfaaGreatDoorCards.lean) ties it to the program's text. -/
def laid_sacristy_sha_constants {H : Type} : DataW H := .agg [.lit (.int .u32 1116352408), .lit (.int .u32 1899447441), .lit (.int .u32 3049323471), .lit (.int .u32 3921009573), .lit (.int .u32 961987163), .lit (.int .u32 1508970993), .lit (.int .u32 2453635748), .lit (.int .u32 2870763221), .lit (.int .u32 3624381080), .lit (.int .u32 310598401), .lit (.int .u32 607225278), .lit (.int .u32 1426881987), .lit (.int .u32 1925078388), .lit (.int .u32 2162078206), .lit (.int .u32 2614888103), .lit (.int .u32 3248222580), .lit (.int .u32 3835390401), .lit (.int .u32 4022224774), .lit (.int .u32 264347078), .lit (.int .u32 604807628), .lit (.int .u32 770255983), .lit (.int .u32 1249150122), .lit (.int .u32 1555081692), .lit (.int .u32 1996064986), .lit (.int .u32 2554220882), .lit (.int .u32 2821834349), .lit (.int .u32 2952996808), .lit (.int .u32 3210313671), .lit (.int .u32 3336571891), .lit (.int .u32 3584528711), .lit (.int .u32 113926993), .lit (.int .u32 338241895), .lit (.int .u32 666307205), .lit (.int .u32 773529912), .lit (.int .u32 1294757372), .lit (.int .u32 1396182291), .lit (.int .u32 1695183700), .lit (.int .u32 1986661051), .lit (.int .u32 2177026350), .lit (.int .u32 2456956037), .lit (.int .u32 2730485921), .lit (.int .u32 2820302411), .lit (.int .u32 3259730800), .lit (.int .u32 3345764771), .lit (.int .u32 3516065817), .lit (.int .u32 3600352804), .lit (.int .u32 4094571909), .lit (.int .u32 275423344), .lit (.int .u32 430227734), .lit (.int .u32 506948616), .lit (.int .u32 659060556), .lit (.int .u32 883997877), .lit (.int .u32 958139571), .lit (.int .u32 1322822218), .lit (.int .u32 1537002063), .lit (.int .u32 1747873779), .lit (.int .u32 1955562222), .lit (.int .u32 2024104815), .lit (.int .u32 2227730452), .lit (.int .u32 2361852424), .lit (.int .u32 2428436474), .lit (.int .u32 2756734187), .lit (.int .u32 3204031479), .lit (.int .u32 3329325298)]
def laid_sacristy_sha_firstState {H : Type} : DataW H := .agg [.lit (.int .u32 1779033703), .lit (.int .u32 3144134277), .lit (.int .u32 1013904242), .lit (.int .u32 2773480762), .lit (.int .u32 1359893119), .lit (.int .u32 2600822924), .lit (.int .u32 528734635), .lit (.int .u32 1541459225)]

/-- 'sacristylaw10.CurveJoins': WHATEVER THE INPUT: true; the input reads as it did. -/
def curveJoinsSpec : ChangeSpec := { name := "curveJoins", fn := fun _ => fun
  | [d1, d2, d3, d4] => { results := [.lit (.bool true)], args := [d1, d2, d3, d4] }
  | _ => none }
def curveJoinsRow : OpenClaim := { program := "ytnbmfaihlefgfaagreatdoor", sum := "c936949091d1661fa37642b3b3b5e043e0c34d83393440cf23e46f9a055dceda", func := "sacristy/sacristylaw10.CurveJoins", spec := "curveJoins", unfollowed := true, recurses := true, named := ["math/bits.overflowError", "sacristy/sha.firstState", "sacristy/sha.constants"], apart := false, laid := [("sacristy/sha.constants", laid_sacristy_sha_constants), ("sacristy/sha.firstState", laid_sacristy_sha_firstState)] }
def CurveJoinsSaid : Prop := curveJoinsRow.holds Tryz.pinned (OpenSpec.ofChange curveJoinsSpec)

/-- ITS FALSE NEIGHBOUR: 'it returns false'. Refute it at one input. -/
def curveJoinsWrong : ChangeSpec := { name := "curveJoins", fn := fun _ => fun
  | [d1, d2, d3, d4] => { results := [.lit (.bool false)], args := [d1, d2, d3, d4] }
  | _ => none }
def CurveJoinsWrongFalsely : Prop := curveJoinsRow.holds Tryz.pinned (OpenSpec.ofChange curveJoinsWrong)

/-- 'sacristylaw10.CurveThrough': WHATEVER THE INPUT: true; the input reads as it did. -/
def curveThroughSpec : ChangeSpec := { name := "curveThrough", fn := fun _ => fun
  | [d1, d2, d3] => { results := [.lit (.bool true)], args := [d1, d2, d3] }
  | _ => none }
def curveThroughRow : OpenClaim := { program := "ytnbmfaihlefgfaagreatdoor", sum := "c936949091d1661fa37642b3b3b5e043e0c34d83393440cf23e46f9a055dceda", func := "sacristy/sacristylaw10.CurveThrough", spec := "curveThrough", unfollowed := true, recurses := true, named := ["math/bits.overflowError", "sacristy/sha.firstState", "sacristy/sha.constants"], apart := false, laid := [("sacristy/sha.constants", laid_sacristy_sha_constants), ("sacristy/sha.firstState", laid_sacristy_sha_firstState)] }
def CurveThroughSaid : Prop := curveThroughRow.holds Tryz.pinned (OpenSpec.ofChange curveThroughSpec)

/-- ITS FALSE NEIGHBOUR: 'it returns false'. Refute it at one input. -/
def curveThroughWrong : ChangeSpec := { name := "curveThrough", fn := fun _ => fun
  | [d1, d2, d3] => { results := [.lit (.bool false)], args := [d1, d2, d3] }
  | _ => none }
def CurveThroughWrongFalsely : Prop := curveThroughRow.holds Tryz.pinned (OpenSpec.ofChange curveThroughWrong)

/-- 'sacristylaw11.SignSigns': WHATEVER THE INPUT: true; the input reads as it did. -/
def signSignsSpec : ChangeSpec := { name := "signSigns", fn := fun _ => fun
  | [d1, d2, d3] => { results := [.lit (.bool true)], args := [d1, d2, d3] }
  | _ => none }
def signSignsRow : OpenClaim := { program := "ytnbmfaihlefgfaagreatdoor", sum := "c936949091d1661fa37642b3b3b5e043e0c34d83393440cf23e46f9a055dceda", func := "sacristy/sacristylaw11.SignSigns", spec := "signSigns", unfollowed := true, recurses := true, named := ["math/bits.overflowError", "sacristy/sha.firstState", "sacristy/sha.constants"], apart := false, laid := [("sacristy/sha.constants", laid_sacristy_sha_constants), ("sacristy/sha.firstState", laid_sacristy_sha_firstState)] }
def SignSignsSaid : Prop := signSignsRow.holds Tryz.pinned (OpenSpec.ofChange signSignsSpec)

/-- ITS FALSE NEIGHBOUR: 'it returns false'. Refute it at one input. -/
def signSignsWrong : ChangeSpec := { name := "signSigns", fn := fun _ => fun
  | [d1, d2, d3] => { results := [.lit (.bool false)], args := [d1, d2, d3] }
  | _ => none }
def SignSignsWrongFalsely : Prop := signSignsRow.holds Tryz.pinned (OpenSpec.ofChange signSignsWrong)

/-- 'sacristylaw11.SignVerifies': WHATEVER THE INPUT: true; the input reads as it did. -/
def signVerifiesSpec : ChangeSpec := { name := "signVerifies", fn := fun _ => fun
  | [d1, d2, d3, d4, d5] => { results := [.lit (.bool true)], args := [d1, d2, d3, d4, d5] }
  | _ => none }
def signVerifiesRow : OpenClaim := { program := "ytnbmfaihlefgfaagreatdoor", sum := "c936949091d1661fa37642b3b3b5e043e0c34d83393440cf23e46f9a055dceda", func := "sacristy/sacristylaw11.SignVerifies", spec := "signVerifies", unfollowed := true, recurses := true, named := ["math/bits.overflowError", "sacristy/sha.firstState", "sacristy/sha.constants"], apart := false, laid := [("sacristy/sha.constants", laid_sacristy_sha_constants), ("sacristy/sha.firstState", laid_sacristy_sha_firstState)] }
def SignVerifiesSaid : Prop := signVerifiesRow.holds Tryz.pinned (OpenSpec.ofChange signVerifiesSpec)

/-- ITS FALSE NEIGHBOUR: 'it returns false'. Refute it at one input. -/
def signVerifiesWrong : ChangeSpec := { name := "signVerifies", fn := fun _ => fun
  | [d1, d2, d3, d4, d5] => { results := [.lit (.bool false)], args := [d1, d2, d3, d4, d5] }
  | _ => none }
def SignVerifiesWrongFalsely : Prop := signVerifiesRow.holds Tryz.pinned (OpenSpec.ofChange signVerifiesWrong)

/-- 'sacristylaw11.SignBack': WHATEVER THE INPUT: true; the input reads as it did. -/
def signBackSpec : ChangeSpec := { name := "signBack", fn := fun _ => fun
  | [d1, d2, d3, d4] => { results := [.lit (.bool true)], args := [d1, d2, d3, d4] }
  | _ => none }
def signBackRow : OpenClaim := { program := "ytnbmfaihlefgfaagreatdoor", sum := "c936949091d1661fa37642b3b3b5e043e0c34d83393440cf23e46f9a055dceda", func := "sacristy/sacristylaw11.SignBack", spec := "signBack", unfollowed := true, recurses := true, named := ["math/bits.overflowError", "sacristy/sha.firstState", "sacristy/sha.constants"], apart := false, laid := [("sacristy/sha.constants", laid_sacristy_sha_constants), ("sacristy/sha.firstState", laid_sacristy_sha_firstState)] }
def SignBackSaid : Prop := signBackRow.holds Tryz.pinned (OpenSpec.ofChange signBackSpec)

/-- ITS FALSE NEIGHBOUR: 'it returns false'. Refute it at one input. -/
def signBackWrong : ChangeSpec := { name := "signBack", fn := fun _ => fun
  | [d1, d2, d3, d4] => { results := [.lit (.bool false)], args := [d1, d2, d3, d4] }
  | _ => none }
def SignBackWrongFalsely : Prop := signBackRow.holds Tryz.pinned (OpenSpec.ofChange signBackWrong)

/-- 'sacristylaw11.SignExact': WHATEVER THE INPUT: true; the input reads as it did. -/
def signExactSpec : ChangeSpec := { name := "signExact", fn := fun _ => fun
  | [d1, d2, d3, d4, d5] => { results := [.lit (.bool true)], args := [d1, d2, d3, d4, d5] }
  | _ => none }
def signExactRow : OpenClaim := { program := "ytnbmfaihlefgfaagreatdoor", sum := "c936949091d1661fa37642b3b3b5e043e0c34d83393440cf23e46f9a055dceda", func := "sacristy/sacristylaw11.SignExact", spec := "signExact", unfollowed := true, recurses := true, named := ["math/bits.overflowError", "sacristy/sha.firstState", "sacristy/sha.constants"], apart := false, laid := [("sacristy/sha.constants", laid_sacristy_sha_constants), ("sacristy/sha.firstState", laid_sacristy_sha_firstState)] }
def SignExactSaid : Prop := signExactRow.holds Tryz.pinned (OpenSpec.ofChange signExactSpec)

/-- ITS FALSE NEIGHBOUR: 'it returns false'. Refute it at one input. -/
def signExactWrong : ChangeSpec := { name := "signExact", fn := fun _ => fun
  | [d1, d2, d3, d4, d5] => { results := [.lit (.bool false)], args := [d1, d2, d3, d4, d5] }
  | _ => none }
def SignExactWrongFalsely : Prop := signExactRow.holds Tryz.pinned (OpenSpec.ofChange signExactWrong)

/-- 'sacristylaw12.DleqSound': WHATEVER THE INPUT: true; the input reads as it did. -/
def dleqSoundSpec : ChangeSpec := { name := "dleqSound", fn := fun _ => fun
  | [d1, d2, d3, d4, d5, d6, d7, d8] => { results := [.lit (.bool true)], args := [d1, d2, d3, d4, d5, d6, d7, d8] }
  | _ => none }
def dleqSoundRow : OpenClaim := { program := "ytnbmfaihlefgfaagreatdoor", sum := "c936949091d1661fa37642b3b3b5e043e0c34d83393440cf23e46f9a055dceda", func := "sacristy/sacristylaw12.DleqSound", spec := "dleqSound", unfollowed := true, recurses := true, named := ["math/bits.overflowError", "sacristy/sha.firstState", "sacristy/sha.constants"], apart := false, laid := [("sacristy/sha.constants", laid_sacristy_sha_constants), ("sacristy/sha.firstState", laid_sacristy_sha_firstState)] }
def DleqSoundSaid : Prop := dleqSoundRow.holds Tryz.pinned (OpenSpec.ofChange dleqSoundSpec)

/-- ITS FALSE NEIGHBOUR: 'it returns false'. Refute it at one input. -/
def dleqSoundWrong : ChangeSpec := { name := "dleqSound", fn := fun _ => fun
  | [d1, d2, d3, d4, d5, d6, d7, d8] => { results := [.lit (.bool false)], args := [d1, d2, d3, d4, d5, d6, d7, d8] }
  | _ => none }
def DleqSoundWrongFalsely : Prop := dleqSoundRow.holds Tryz.pinned (OpenSpec.ofChange dleqSoundWrong)

/-- 'sacristylaw13.PledgeMakes': WHATEVER THE INPUT: true; the input reads as it did. -/
def pledgeMakesSpec : ChangeSpec := { name := "pledgeMakes", fn := fun _ => fun
  | [d1, d2, d3, d4] => { results := [.lit (.bool true)], args := [d1, d2, d3, d4] }
  | _ => none }
def pledgeMakesRow : OpenClaim := { program := "ytnbmfaihlefgfaagreatdoor", sum := "c936949091d1661fa37642b3b3b5e043e0c34d83393440cf23e46f9a055dceda", func := "sacristy/sacristylaw13.PledgeMakes", spec := "pledgeMakes", unfollowed := true, recurses := true, named := ["math/bits.overflowError", "sacristy/sha.firstState", "sacristy/sha.constants"], apart := false, laid := [("sacristy/sha.constants", laid_sacristy_sha_constants), ("sacristy/sha.firstState", laid_sacristy_sha_firstState)] }
def PledgeMakesSaid : Prop := pledgeMakesRow.holds Tryz.pinned (OpenSpec.ofChange pledgeMakesSpec)

/-- ITS FALSE NEIGHBOUR: 'it returns false'. Refute it at one input. -/
def pledgeMakesWrong : ChangeSpec := { name := "pledgeMakes", fn := fun _ => fun
  | [d1, d2, d3, d4] => { results := [.lit (.bool false)], args := [d1, d2, d3, d4] }
  | _ => none }
def PledgeMakesWrongFalsely : Prop := pledgeMakesRow.holds Tryz.pinned (OpenSpec.ofChange pledgeMakesWrong)

/-- 'sacristylaw13.PledgeTells': WHATEVER THE INPUT: true; the input reads as it did. -/
def pledgeTellsSpec : ChangeSpec := { name := "pledgeTells", fn := fun _ => fun
  | [d1, d2, d3, d4, d5] => { results := [.lit (.bool true)], args := [d1, d2, d3, d4, d5] }
  | _ => none }
def pledgeTellsRow : OpenClaim := { program := "ytnbmfaihlefgfaagreatdoor", sum := "c936949091d1661fa37642b3b3b5e043e0c34d83393440cf23e46f9a055dceda", func := "sacristy/sacristylaw13.PledgeTells", spec := "pledgeTells", unfollowed := true, recurses := true, named := ["math/bits.overflowError", "sacristy/sha.firstState", "sacristy/sha.constants"], apart := false, laid := [("sacristy/sha.constants", laid_sacristy_sha_constants), ("sacristy/sha.firstState", laid_sacristy_sha_firstState)] }
def PledgeTellsSaid : Prop := pledgeTellsRow.holds Tryz.pinned (OpenSpec.ofChange pledgeTellsSpec)

/-- ITS FALSE NEIGHBOUR: 'it returns false'. Refute it at one input. -/
def pledgeTellsWrong : ChangeSpec := { name := "pledgeTells", fn := fun _ => fun
  | [d1, d2, d3, d4, d5] => { results := [.lit (.bool false)], args := [d1, d2, d3, d4, d5] }
  | _ => none }
def PledgeTellsWrongFalsely : Prop := pledgeTellsRow.holds Tryz.pinned (OpenSpec.ofChange pledgeTellsWrong)

/-- 'sacristylaw13.PledgeOpens': WHATEVER THE INPUT: true; the input reads as it did. -/
def pledgeOpensSpec : ChangeSpec := { name := "pledgeOpens", fn := fun _ => fun
  | [d1, d2, d3, d4, d5] => { results := [.lit (.bool true)], args := [d1, d2, d3, d4, d5] }
  | _ => none }
def pledgeOpensRow : OpenClaim := { program := "ytnbmfaihlefgfaagreatdoor", sum := "c936949091d1661fa37642b3b3b5e043e0c34d83393440cf23e46f9a055dceda", func := "sacristy/sacristylaw13.PledgeOpens", spec := "pledgeOpens", unfollowed := true, recurses := true, named := ["math/bits.overflowError", "sacristy/sha.firstState", "sacristy/sha.constants"], apart := false, laid := [("sacristy/sha.constants", laid_sacristy_sha_constants), ("sacristy/sha.firstState", laid_sacristy_sha_firstState)] }
def PledgeOpensSaid : Prop := pledgeOpensRow.holds Tryz.pinned (OpenSpec.ofChange pledgeOpensSpec)

/-- ITS FALSE NEIGHBOUR: 'it returns false'. Refute it at one input. -/
def pledgeOpensWrong : ChangeSpec := { name := "pledgeOpens", fn := fun _ => fun
  | [d1, d2, d3, d4, d5] => { results := [.lit (.bool false)], args := [d1, d2, d3, d4, d5] }
  | _ => none }
def PledgeOpensWrongFalsely : Prop := pledgeOpensRow.holds Tryz.pinned (OpenSpec.ofChange pledgeOpensWrong)

/-- 'sacristylaw13.PledgeSums': WHATEVER THE INPUT: true; the input reads as it did. -/
def pledgeSumsSpec : ChangeSpec := { name := "pledgeSums", fn := fun _ => fun
  | [d1, d2, d3, d4, d5] => { results := [.lit (.bool true)], args := [d1, d2, d3, d4, d5] }
  | _ => none }
def pledgeSumsRow : OpenClaim := { program := "ytnbmfaihlefgfaagreatdoor", sum := "c936949091d1661fa37642b3b3b5e043e0c34d83393440cf23e46f9a055dceda", func := "sacristy/sacristylaw13.PledgeSums", spec := "pledgeSums", unfollowed := true, recurses := true, named := ["math/bits.overflowError", "sacristy/sha.firstState", "sacristy/sha.constants"], apart := false, laid := [("sacristy/sha.constants", laid_sacristy_sha_constants), ("sacristy/sha.firstState", laid_sacristy_sha_firstState)] }
def PledgeSumsSaid : Prop := pledgeSumsRow.holds Tryz.pinned (OpenSpec.ofChange pledgeSumsSpec)

/-- ITS FALSE NEIGHBOUR: 'it returns false'. Refute it at one input. -/
def pledgeSumsWrong : ChangeSpec := { name := "pledgeSums", fn := fun _ => fun
  | [d1, d2, d3, d4, d5] => { results := [.lit (.bool false)], args := [d1, d2, d3, d4, d5] }
  | _ => none }
def PledgeSumsWrongFalsely : Prop := pledgeSumsRow.holds Tryz.pinned (OpenSpec.ofChange pledgeSumsWrong)

/-- 'sacristylaw13.PledgeHides': WHATEVER THE INPUT: true; the input reads as it did. -/
def pledgeHidesSpec : ChangeSpec := { name := "pledgeHides", fn := fun _ => fun
  | [d1, d2, d3, d4] => { results := [.lit (.bool true)], args := [d1, d2, d3, d4] }
  | _ => none }
def pledgeHidesRow : OpenClaim := { program := "ytnbmfaihlefgfaagreatdoor", sum := "c936949091d1661fa37642b3b3b5e043e0c34d83393440cf23e46f9a055dceda", func := "sacristy/sacristylaw13.PledgeHides", spec := "pledgeHides", unfollowed := true, recurses := true, named := ["math/bits.overflowError", "sacristy/sha.firstState", "sacristy/sha.constants"], apart := false, laid := [("sacristy/sha.constants", laid_sacristy_sha_constants), ("sacristy/sha.firstState", laid_sacristy_sha_firstState)] }
def PledgeHidesSaid : Prop := pledgeHidesRow.holds Tryz.pinned (OpenSpec.ofChange pledgeHidesSpec)

/-- ITS FALSE NEIGHBOUR: 'it returns false'. Refute it at one input. -/
def pledgeHidesWrong : ChangeSpec := { name := "pledgeHides", fn := fun _ => fun
  | [d1, d2, d3, d4] => { results := [.lit (.bool false)], args := [d1, d2, d3, d4] }
  | _ => none }
def PledgeHidesWrongFalsely : Prop := pledgeHidesRow.holds Tryz.pinned (OpenSpec.ofChange pledgeHidesWrong)

/- THE SECOND FORM. 'bulk': how many values and letters a reading holds, each counted each time it is reached (what is shared counts as often as it is met; a slice's spare places count too). A statement '..UptoSaid' is the law's where the arguments, and the package variables that the reading takes, are together of bulk at most 1048576: NARROWER than '..Said'. Prove '..Said' where nothing that the law and all that it calls make is longer than what came in: it says more and counts as full. Else prove '..UptoSaid'. A law counts once. -/
mutual
def uptoBulk {H : Type} : DataW H → Nat
  | .lit (.string bytes) => bytes.length + 1
  | .lit _ => 1
  | .nil => 1
  | .ptr d => uptoBulk d + 1
  | .slice elems spare => uptoBulkAll elems + uptoBulkAll spare + 1
  | .agg parts => uptoBulkAll parts + 1
  | .iface _ d => uptoBulk d + 1
  | .map entries => uptoBulkEntries entries + 1
  | .held _ => 1
def uptoBulkAll {H : Type} : List (DataW H) → Nat
  | [] => 0
  | d :: r => uptoBulk d + uptoBulkAll r
def uptoBulkEntries {H : Type} : List (Lit × DataW H) → Nat
  | [] => 0
  | x :: r => uptoBulkEntry x + uptoBulkEntries r
def uptoBulkEntry {H : Type} : Lit × DataW H → Nat
  | (.string bytes, d) => bytes.length + uptoBulk d + 1
  | (_, d) => uptoBulk d + 1
 end
def uptoSmall : (H : Type) → List (DataW H) → Bool := fun _ ds => decide (uptoBulkAll ds ≤ 1048576)
def OpenSpec.upto (s : _root_.Go.ChangeSpec) : _root_.Go.OpenSpec := { _root_.Go.OpenSpec.ofChange s with cond := some uptoSmall }

/-- 'sacristylaw10.CurveJoins', WHERE WHAT IT READS IS OF BULK AT MOST 1048576: true; the input reads as it did. -/
def curveJoinsUptoRow : OpenClaim := { program := "ytnbmfaihlefgfaagreatdoor", sum := "c936949091d1661fa37642b3b3b5e043e0c34d83393440cf23e46f9a055dceda", func := "sacristy/sacristylaw10.CurveJoins", spec := "curveJoins", unfollowed := true, recurses := true, named := ["math/bits.overflowError", "sacristy/sha.firstState", "sacristy/sha.constants"], apart := false, laid := [("sacristy/sha.constants", laid_sacristy_sha_constants), ("sacristy/sha.firstState", laid_sacristy_sha_firstState)], narrowed := true }
def CurveJoinsUptoSaid : Prop := curveJoinsUptoRow.holds Tryz.pinned (OpenSpec.upto curveJoinsSpec)

/-- 'sacristylaw10.CurveThrough', WHERE WHAT IT READS IS OF BULK AT MOST 1048576: true; the input reads as it did. -/
def curveThroughUptoRow : OpenClaim := { program := "ytnbmfaihlefgfaagreatdoor", sum := "c936949091d1661fa37642b3b3b5e043e0c34d83393440cf23e46f9a055dceda", func := "sacristy/sacristylaw10.CurveThrough", spec := "curveThrough", unfollowed := true, recurses := true, named := ["math/bits.overflowError", "sacristy/sha.firstState", "sacristy/sha.constants"], apart := false, laid := [("sacristy/sha.constants", laid_sacristy_sha_constants), ("sacristy/sha.firstState", laid_sacristy_sha_firstState)], narrowed := true }
def CurveThroughUptoSaid : Prop := curveThroughUptoRow.holds Tryz.pinned (OpenSpec.upto curveThroughSpec)

/-- 'sacristylaw11.SignSigns', WHERE WHAT IT READS IS OF BULK AT MOST 1048576: true; the input reads as it did. -/
def signSignsUptoRow : OpenClaim := { program := "ytnbmfaihlefgfaagreatdoor", sum := "c936949091d1661fa37642b3b3b5e043e0c34d83393440cf23e46f9a055dceda", func := "sacristy/sacristylaw11.SignSigns", spec := "signSigns", unfollowed := true, recurses := true, named := ["math/bits.overflowError", "sacristy/sha.firstState", "sacristy/sha.constants"], apart := false, laid := [("sacristy/sha.constants", laid_sacristy_sha_constants), ("sacristy/sha.firstState", laid_sacristy_sha_firstState)], narrowed := true }
def SignSignsUptoSaid : Prop := signSignsUptoRow.holds Tryz.pinned (OpenSpec.upto signSignsSpec)

/-- 'sacristylaw11.SignVerifies', WHERE WHAT IT READS IS OF BULK AT MOST 1048576: true; the input reads as it did. -/
def signVerifiesUptoRow : OpenClaim := { program := "ytnbmfaihlefgfaagreatdoor", sum := "c936949091d1661fa37642b3b3b5e043e0c34d83393440cf23e46f9a055dceda", func := "sacristy/sacristylaw11.SignVerifies", spec := "signVerifies", unfollowed := true, recurses := true, named := ["math/bits.overflowError", "sacristy/sha.firstState", "sacristy/sha.constants"], apart := false, laid := [("sacristy/sha.constants", laid_sacristy_sha_constants), ("sacristy/sha.firstState", laid_sacristy_sha_firstState)], narrowed := true }
def SignVerifiesUptoSaid : Prop := signVerifiesUptoRow.holds Tryz.pinned (OpenSpec.upto signVerifiesSpec)

/-- 'sacristylaw11.SignBack', WHERE WHAT IT READS IS OF BULK AT MOST 1048576: true; the input reads as it did. -/
def signBackUptoRow : OpenClaim := { program := "ytnbmfaihlefgfaagreatdoor", sum := "c936949091d1661fa37642b3b3b5e043e0c34d83393440cf23e46f9a055dceda", func := "sacristy/sacristylaw11.SignBack", spec := "signBack", unfollowed := true, recurses := true, named := ["math/bits.overflowError", "sacristy/sha.firstState", "sacristy/sha.constants"], apart := false, laid := [("sacristy/sha.constants", laid_sacristy_sha_constants), ("sacristy/sha.firstState", laid_sacristy_sha_firstState)], narrowed := true }
def SignBackUptoSaid : Prop := signBackUptoRow.holds Tryz.pinned (OpenSpec.upto signBackSpec)

/-- 'sacristylaw11.SignExact', WHERE WHAT IT READS IS OF BULK AT MOST 1048576: true; the input reads as it did. -/
def signExactUptoRow : OpenClaim := { program := "ytnbmfaihlefgfaagreatdoor", sum := "c936949091d1661fa37642b3b3b5e043e0c34d83393440cf23e46f9a055dceda", func := "sacristy/sacristylaw11.SignExact", spec := "signExact", unfollowed := true, recurses := true, named := ["math/bits.overflowError", "sacristy/sha.firstState", "sacristy/sha.constants"], apart := false, laid := [("sacristy/sha.constants", laid_sacristy_sha_constants), ("sacristy/sha.firstState", laid_sacristy_sha_firstState)], narrowed := true }
def SignExactUptoSaid : Prop := signExactUptoRow.holds Tryz.pinned (OpenSpec.upto signExactSpec)

/-- 'sacristylaw12.DleqSound', WHERE WHAT IT READS IS OF BULK AT MOST 1048576: true; the input reads as it did. -/
def dleqSoundUptoRow : OpenClaim := { program := "ytnbmfaihlefgfaagreatdoor", sum := "c936949091d1661fa37642b3b3b5e043e0c34d83393440cf23e46f9a055dceda", func := "sacristy/sacristylaw12.DleqSound", spec := "dleqSound", unfollowed := true, recurses := true, named := ["math/bits.overflowError", "sacristy/sha.firstState", "sacristy/sha.constants"], apart := false, laid := [("sacristy/sha.constants", laid_sacristy_sha_constants), ("sacristy/sha.firstState", laid_sacristy_sha_firstState)], narrowed := true }
def DleqSoundUptoSaid : Prop := dleqSoundUptoRow.holds Tryz.pinned (OpenSpec.upto dleqSoundSpec)

/-- 'sacristylaw13.PledgeMakes', WHERE WHAT IT READS IS OF BULK AT MOST 1048576: true; the input reads as it did. -/
def pledgeMakesUptoRow : OpenClaim := { program := "ytnbmfaihlefgfaagreatdoor", sum := "c936949091d1661fa37642b3b3b5e043e0c34d83393440cf23e46f9a055dceda", func := "sacristy/sacristylaw13.PledgeMakes", spec := "pledgeMakes", unfollowed := true, recurses := true, named := ["math/bits.overflowError", "sacristy/sha.firstState", "sacristy/sha.constants"], apart := false, laid := [("sacristy/sha.constants", laid_sacristy_sha_constants), ("sacristy/sha.firstState", laid_sacristy_sha_firstState)], narrowed := true }
def PledgeMakesUptoSaid : Prop := pledgeMakesUptoRow.holds Tryz.pinned (OpenSpec.upto pledgeMakesSpec)

/-- 'sacristylaw13.PledgeTells', WHERE WHAT IT READS IS OF BULK AT MOST 1048576: true; the input reads as it did. -/
def pledgeTellsUptoRow : OpenClaim := { program := "ytnbmfaihlefgfaagreatdoor", sum := "c936949091d1661fa37642b3b3b5e043e0c34d83393440cf23e46f9a055dceda", func := "sacristy/sacristylaw13.PledgeTells", spec := "pledgeTells", unfollowed := true, recurses := true, named := ["math/bits.overflowError", "sacristy/sha.firstState", "sacristy/sha.constants"], apart := false, laid := [("sacristy/sha.constants", laid_sacristy_sha_constants), ("sacristy/sha.firstState", laid_sacristy_sha_firstState)], narrowed := true }
def PledgeTellsUptoSaid : Prop := pledgeTellsUptoRow.holds Tryz.pinned (OpenSpec.upto pledgeTellsSpec)

/-- 'sacristylaw13.PledgeOpens', WHERE WHAT IT READS IS OF BULK AT MOST 1048576: true; the input reads as it did. -/
def pledgeOpensUptoRow : OpenClaim := { program := "ytnbmfaihlefgfaagreatdoor", sum := "c936949091d1661fa37642b3b3b5e043e0c34d83393440cf23e46f9a055dceda", func := "sacristy/sacristylaw13.PledgeOpens", spec := "pledgeOpens", unfollowed := true, recurses := true, named := ["math/bits.overflowError", "sacristy/sha.firstState", "sacristy/sha.constants"], apart := false, laid := [("sacristy/sha.constants", laid_sacristy_sha_constants), ("sacristy/sha.firstState", laid_sacristy_sha_firstState)], narrowed := true }
def PledgeOpensUptoSaid : Prop := pledgeOpensUptoRow.holds Tryz.pinned (OpenSpec.upto pledgeOpensSpec)

/-- 'sacristylaw13.PledgeSums', WHERE WHAT IT READS IS OF BULK AT MOST 1048576: true; the input reads as it did. -/
def pledgeSumsUptoRow : OpenClaim := { program := "ytnbmfaihlefgfaagreatdoor", sum := "c936949091d1661fa37642b3b3b5e043e0c34d83393440cf23e46f9a055dceda", func := "sacristy/sacristylaw13.PledgeSums", spec := "pledgeSums", unfollowed := true, recurses := true, named := ["math/bits.overflowError", "sacristy/sha.firstState", "sacristy/sha.constants"], apart := false, laid := [("sacristy/sha.constants", laid_sacristy_sha_constants), ("sacristy/sha.firstState", laid_sacristy_sha_firstState)], narrowed := true }
def PledgeSumsUptoSaid : Prop := pledgeSumsUptoRow.holds Tryz.pinned (OpenSpec.upto pledgeSumsSpec)

/-- 'sacristylaw13.PledgeHides', WHERE WHAT IT READS IS OF BULK AT MOST 1048576: true; the input reads as it did. -/
def pledgeHidesUptoRow : OpenClaim := { program := "ytnbmfaihlefgfaagreatdoor", sum := "c936949091d1661fa37642b3b3b5e043e0c34d83393440cf23e46f9a055dceda", func := "sacristy/sacristylaw13.PledgeHides", spec := "pledgeHides", unfollowed := true, recurses := true, named := ["math/bits.overflowError", "sacristy/sha.firstState", "sacristy/sha.constants"], apart := false, laid := [("sacristy/sha.constants", laid_sacristy_sha_constants), ("sacristy/sha.firstState", laid_sacristy_sha_firstState)], narrowed := true }
def PledgeHidesUptoSaid : Prop := pledgeHidesUptoRow.holds Tryz.pinned (OpenSpec.upto pledgeHidesSpec)

end Rows
end Go.Proofs.YtnbmfaihlefgfaaGreatDoor
