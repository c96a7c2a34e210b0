/-
  NARROWER THAN 'FOR EVERY INPUT', by the rows' own cells (each row's printed sentence says how): SignSigns: laid · SignVerifies: laid · SignBack: laid · SignExact: laid · DealNews: laid · DealRecovers: laid · DealBack: laid · DealHides: laid · DealBytes: laid · DealAdds: laid.
  DERIVED. THE GIVEN ROWS OF THIS SEAT. 10 by the template 'for every input the law returns true; each argument reads behind the call as it read before'; 0 by the template 'total and deterministic' (their statements: YtokhckjemidbpaaGreatDoorTotals.lean).
  GIVEN WITH THE SEED: the statements are not yours to turn. If you find one false, say at which input.
  Laid BY PROGRAM, IN A SANDBOX (cutbox-rows.mjs): the forced cells as the released guide's own fill.sh prints them over the translation 732dbd40831158a0… (all of the seat's roots in one cut). By AI agents, Wed Nov 11 2026. No macro, syntax, notation, axiom, sorry.
-/
import Derived.Test.YtokhckjemidbpaaGreatDoorChecked
import GoSem.Claim
import GoSem.ClaimJoined
import GoSem.ClaimMapViews
import Derived.JoinedTies
import Derived.KernelRfl
namespace Go.Proofs.YtokhckjemidbpaaGreatDoor
/- THE CELL 'sum', in the pinned program and in every row, IS THE sha256 OF THE DUMP (.gsa) THAT YtokhckjemidbpaaGreatDoorProg.lean LOADS. Nothing in Lean hashes anything: it is a label: what it is worth is what the hold of that sum in a sandbox is worth. -/
noncomputable def Tryz.pinned : Pinned := { name := "ytokhckjemidbpaagreatdoor", sum := "732dbd40831158a06c054cc21d89469cf35ddb95397fc69efd2645c4b7c8dea4", checked := Tryz.checked }
namespace Rows
def none {H : Type} : Left H := { results := [], args := [] }

/- WHAT THE LISTED PACKAGE-LEVEL VARIABLES READ AS WHEN THE CALL BEGINS. Each datum BY PROGRAM (the guide's laid-datum.mjs) off the statement by which the dump's own 'gosem.cut.vars' lays the variable. In a bare row this is a premise. The card (YtokhckjemidbpaaGreatDoorCards.lean) ties it to the program's text. -/
def laid_sacristy_sha_constants {H : Type} : DataW H := .agg [.lit (.int .u32 1116352408), .lit (.int .u32 1899447441), .lit (.int .u32 3049323471), .lit (.int .u32 3921009573), .lit (.int .u32 961987163), .lit (.int .u32 1508970993), .lit (.int .u32 2453635748), .lit (.int .u32 2870763221), .lit (.int .u32 3624381080), .lit (.int .u32 310598401), .lit (.int .u32 607225278), .lit (.int .u32 1426881987), .lit (.int .u32 1925078388), .lit (.int .u32 2162078206), .lit (.int .u32 2614888103), .lit (.int .u32 3248222580), .lit (.int .u32 3835390401), .lit (.int .u32 4022224774), .lit (.int .u32 264347078), .lit (.int .u32 604807628), .lit (.int .u32 770255983), .lit (.int .u32 1249150122), .lit (.int .u32 1555081692), .lit (.int .u32 1996064986), .lit (.int .u32 2554220882), .lit (.int .u32 2821834349), .lit (.int .u32 2952996808), .lit (.int .u32 3210313671), .lit (.int .u32 3336571891), .lit (.int .u32 3584528711), .lit (.int .u32 113926993), .lit (.int .u32 338241895), .lit (.int .u32 666307205), .lit (.int .u32 773529912), .lit (.int .u32 1294757372), .lit (.int .u32 1396182291), .lit (.int .u32 1695183700), .lit (.int .u32 1986661051), .lit (.int .u32 2177026350), .lit (.int .u32 2456956037), .lit (.int .u32 2730485921), .lit (.int .u32 2820302411), .lit (.int .u32 3259730800), .lit (.int .u32 3345764771), .lit (.int .u32 3516065817), .lit (.int .u32 3600352804), .lit (.int .u32 4094571909), .lit (.int .u32 275423344), .lit (.int .u32 430227734), .lit (.int .u32 506948616), .lit (.int .u32 659060556), .lit (.int .u32 883997877), .lit (.int .u32 958139571), .lit (.int .u32 1322822218), .lit (.int .u32 1537002063), .lit (.int .u32 1747873779), .lit (.int .u32 1955562222), .lit (.int .u32 2024104815), .lit (.int .u32 2227730452), .lit (.int .u32 2361852424), .lit (.int .u32 2428436474), .lit (.int .u32 2756734187), .lit (.int .u32 3204031479), .lit (.int .u32 3329325298)]
def laid_sacristy_sha_firstState {H : Type} : DataW H := .agg [.lit (.int .u32 1779033703), .lit (.int .u32 3144134277), .lit (.int .u32 1013904242), .lit (.int .u32 2773480762), .lit (.int .u32 1359893119), .lit (.int .u32 2600822924), .lit (.int .u32 528734635), .lit (.int .u32 1541459225)]

/-- 'sacristylaw11.SignSigns': WHATEVER THE INPUT: true; the input reads as it did. -/
def signSignsSpec : ChangeSpec := { name := "signSigns", fn := fun _ => fun
  | [d1, d2, d3] => { results := [.lit (.bool true)], args := [d1, d2, d3] }
  | _ => none }
def signSignsRow : OpenClaim := { program := "ytokhckjemidbpaagreatdoor", sum := "732dbd40831158a06c054cc21d89469cf35ddb95397fc69efd2645c4b7c8dea4", func := "sacristy/sacristylaw11.SignSigns", spec := "signSigns", unfollowed := true, recurses := true, named := ["math/bits.overflowError", "sacristy/sha.firstState", "sacristy/sha.constants"], apart := false, laid := [("sacristy/sha.constants", laid_sacristy_sha_constants), ("sacristy/sha.firstState", laid_sacristy_sha_firstState)] }
def SignSignsSaid : Prop := signSignsRow.holds Tryz.pinned (OpenSpec.ofChange signSignsSpec)

/-- ITS FALSE NEIGHBOUR: 'it returns false'. Refute it at one input. -/
def signSignsWrong : ChangeSpec := { name := "signSigns", fn := fun _ => fun
  | [d1, d2, d3] => { results := [.lit (.bool false)], args := [d1, d2, d3] }
  | _ => none }
def SignSignsWrongFalsely : Prop := signSignsRow.holds Tryz.pinned (OpenSpec.ofChange signSignsWrong)

/-- 'sacristylaw11.SignVerifies': WHATEVER THE INPUT: true; the input reads as it did. -/
def signVerifiesSpec : ChangeSpec := { name := "signVerifies", fn := fun _ => fun
  | [d1, d2, d3, d4, d5] => { results := [.lit (.bool true)], args := [d1, d2, d3, d4, d5] }
  | _ => none }
def signVerifiesRow : OpenClaim := { program := "ytokhckjemidbpaagreatdoor", sum := "732dbd40831158a06c054cc21d89469cf35ddb95397fc69efd2645c4b7c8dea4", func := "sacristy/sacristylaw11.SignVerifies", spec := "signVerifies", unfollowed := true, recurses := true, named := ["math/bits.overflowError", "sacristy/sha.firstState", "sacristy/sha.constants"], apart := false, laid := [("sacristy/sha.constants", laid_sacristy_sha_constants), ("sacristy/sha.firstState", laid_sacristy_sha_firstState)] }
def SignVerifiesSaid : Prop := signVerifiesRow.holds Tryz.pinned (OpenSpec.ofChange signVerifiesSpec)

/-- ITS FALSE NEIGHBOUR: 'it returns false'. Refute it at one input. -/
def signVerifiesWrong : ChangeSpec := { name := "signVerifies", fn := fun _ => fun
  | [d1, d2, d3, d4, d5] => { results := [.lit (.bool false)], args := [d1, d2, d3, d4, d5] }
  | _ => none }
def SignVerifiesWrongFalsely : Prop := signVerifiesRow.holds Tryz.pinned (OpenSpec.ofChange signVerifiesWrong)

/-- 'sacristylaw11.SignBack': WHATEVER THE INPUT: true; the input reads as it did. -/
def signBackSpec : ChangeSpec := { name := "signBack", fn := fun _ => fun
  | [d1, d2, d3, d4] => { results := [.lit (.bool true)], args := [d1, d2, d3, d4] }
  | _ => none }
def signBackRow : OpenClaim := { program := "ytokhckjemidbpaagreatdoor", sum := "732dbd40831158a06c054cc21d89469cf35ddb95397fc69efd2645c4b7c8dea4", func := "sacristy/sacristylaw11.SignBack", spec := "signBack", unfollowed := true, recurses := true, named := ["math/bits.overflowError", "sacristy/sha.firstState", "sacristy/sha.constants"], apart := false, laid := [("sacristy/sha.constants", laid_sacristy_sha_constants), ("sacristy/sha.firstState", laid_sacristy_sha_firstState)] }
def SignBackSaid : Prop := signBackRow.holds Tryz.pinned (OpenSpec.ofChange signBackSpec)

/-- ITS FALSE NEIGHBOUR: 'it returns false'. Refute it at one input. -/
def signBackWrong : ChangeSpec := { name := "signBack", fn := fun _ => fun
  | [d1, d2, d3, d4] => { results := [.lit (.bool false)], args := [d1, d2, d3, d4] }
  | _ => none }
def SignBackWrongFalsely : Prop := signBackRow.holds Tryz.pinned (OpenSpec.ofChange signBackWrong)

/-- 'sacristylaw11.SignExact': WHATEVER THE INPUT: true; the input reads as it did. -/
def signExactSpec : ChangeSpec := { name := "signExact", fn := fun _ => fun
  | [d1, d2, d3, d4, d5] => { results := [.lit (.bool true)], args := [d1, d2, d3, d4, d5] }
  | _ => none }
def signExactRow : OpenClaim := { program := "ytokhckjemidbpaagreatdoor", sum := "732dbd40831158a06c054cc21d89469cf35ddb95397fc69efd2645c4b7c8dea4", func := "sacristy/sacristylaw11.SignExact", spec := "signExact", unfollowed := true, recurses := true, named := ["math/bits.overflowError", "sacristy/sha.firstState", "sacristy/sha.constants"], apart := false, laid := [("sacristy/sha.constants", laid_sacristy_sha_constants), ("sacristy/sha.firstState", laid_sacristy_sha_firstState)] }
def SignExactSaid : Prop := signExactRow.holds Tryz.pinned (OpenSpec.ofChange signExactSpec)

/-- ITS FALSE NEIGHBOUR: 'it returns false'. Refute it at one input. -/
def signExactWrong : ChangeSpec := { name := "signExact", fn := fun _ => fun
  | [d1, d2, d3, d4, d5] => { results := [.lit (.bool false)], args := [d1, d2, d3, d4, d5] }
  | _ => none }
def SignExactWrongFalsely : Prop := signExactRow.holds Tryz.pinned (OpenSpec.ofChange signExactWrong)

/-- 'sacristylaw14.DealNews': WHATEVER THE INPUT: true; the input reads as it did. -/
def dealNewsSpec : ChangeSpec := { name := "dealNews", fn := fun _ => fun
  | [d1, d2, d3, d4, d5, d6] => { results := [.lit (.bool true)], args := [d1, d2, d3, d4, d5, d6] }
  | _ => none }
def dealNewsRow : OpenClaim := { program := "ytokhckjemidbpaagreatdoor", sum := "732dbd40831158a06c054cc21d89469cf35ddb95397fc69efd2645c4b7c8dea4", func := "sacristy/sacristylaw14.DealNews", spec := "dealNews", unfollowed := true, recurses := true, named := ["math/bits.overflowError", "sacristy/sha.firstState", "sacristy/sha.constants"], apart := false, laid := [("sacristy/sha.constants", laid_sacristy_sha_constants), ("sacristy/sha.firstState", laid_sacristy_sha_firstState)] }
def DealNewsSaid : Prop := dealNewsRow.holds Tryz.pinned (OpenSpec.ofChange dealNewsSpec)

/-- ITS FALSE NEIGHBOUR: 'it returns false'. Refute it at one input. -/
def dealNewsWrong : ChangeSpec := { name := "dealNews", fn := fun _ => fun
  | [d1, d2, d3, d4, d5, d6] => { results := [.lit (.bool false)], args := [d1, d2, d3, d4, d5, d6] }
  | _ => none }
def DealNewsWrongFalsely : Prop := dealNewsRow.holds Tryz.pinned (OpenSpec.ofChange dealNewsWrong)

/-- 'sacristylaw14.DealRecovers': WHATEVER THE INPUT: true; the input reads as it did. -/
def dealRecoversSpec : ChangeSpec := { name := "dealRecovers", fn := fun _ => fun
  | [d1, d2, d3, d4, d5, d6, d7] => { results := [.lit (.bool true)], args := [d1, d2, d3, d4, d5, d6, d7] }
  | _ => none }
def dealRecoversRow : OpenClaim := { program := "ytokhckjemidbpaagreatdoor", sum := "732dbd40831158a06c054cc21d89469cf35ddb95397fc69efd2645c4b7c8dea4", func := "sacristy/sacristylaw14.DealRecovers", spec := "dealRecovers", unfollowed := true, recurses := true, named := ["math/bits.overflowError", "sacristy/sha.firstState", "sacristy/sha.constants"], apart := false, laid := [("sacristy/sha.constants", laid_sacristy_sha_constants), ("sacristy/sha.firstState", laid_sacristy_sha_firstState)] }
def DealRecoversSaid : Prop := dealRecoversRow.holds Tryz.pinned (OpenSpec.ofChange dealRecoversSpec)

/-- ITS FALSE NEIGHBOUR: 'it returns false'. Refute it at one input. -/
def dealRecoversWrong : ChangeSpec := { name := "dealRecovers", fn := fun _ => fun
  | [d1, d2, d3, d4, d5, d6, d7] => { results := [.lit (.bool false)], args := [d1, d2, d3, d4, d5, d6, d7] }
  | _ => none }
def DealRecoversWrongFalsely : Prop := dealRecoversRow.holds Tryz.pinned (OpenSpec.ofChange dealRecoversWrong)

/-- 'sacristylaw14.DealBack': WHATEVER THE INPUT: true; the input reads as it did. -/
def dealBackSpec : ChangeSpec := { name := "dealBack", fn := fun _ => fun
  | [d1, d2, d3, d4, d5, d6, d7, d8, d9] => { results := [.lit (.bool true)], args := [d1, d2, d3, d4, d5, d6, d7, d8, d9] }
  | _ => none }
def dealBackRow : OpenClaim := { program := "ytokhckjemidbpaagreatdoor", sum := "732dbd40831158a06c054cc21d89469cf35ddb95397fc69efd2645c4b7c8dea4", func := "sacristy/sacristylaw14.DealBack", spec := "dealBack", unfollowed := true, recurses := true, named := ["math/bits.overflowError", "sacristy/sha.firstState", "sacristy/sha.constants"], apart := false, laid := [("sacristy/sha.constants", laid_sacristy_sha_constants), ("sacristy/sha.firstState", laid_sacristy_sha_firstState)] }
def DealBackSaid : Prop := dealBackRow.holds Tryz.pinned (OpenSpec.ofChange dealBackSpec)

/-- ITS FALSE NEIGHBOUR: 'it returns false'. Refute it at one input. -/
def dealBackWrong : ChangeSpec := { name := "dealBack", fn := fun _ => fun
  | [d1, d2, d3, d4, d5, d6, d7, d8, d9] => { results := [.lit (.bool false)], args := [d1, d2, d3, d4, d5, d6, d7, d8, d9] }
  | _ => none }
def DealBackWrongFalsely : Prop := dealBackRow.holds Tryz.pinned (OpenSpec.ofChange dealBackWrong)

/-- 'sacristylaw14.DealHides': WHATEVER THE INPUT: true; the input reads as it did. -/
def dealHidesSpec : ChangeSpec := { name := "dealHides", fn := fun _ => fun
  | [d1, d2, d3, d4, d5, d6, d7] => { results := [.lit (.bool true)], args := [d1, d2, d3, d4, d5, d6, d7] }
  | _ => none }
def dealHidesRow : OpenClaim := { program := "ytokhckjemidbpaagreatdoor", sum := "732dbd40831158a06c054cc21d89469cf35ddb95397fc69efd2645c4b7c8dea4", func := "sacristy/sacristylaw14.DealHides", spec := "dealHides", unfollowed := true, recurses := true, named := ["math/bits.overflowError", "sacristy/sha.firstState", "sacristy/sha.constants"], apart := false, laid := [("sacristy/sha.constants", laid_sacristy_sha_constants), ("sacristy/sha.firstState", laid_sacristy_sha_firstState)] }
def DealHidesSaid : Prop := dealHidesRow.holds Tryz.pinned (OpenSpec.ofChange dealHidesSpec)

/-- ITS FALSE NEIGHBOUR: 'it returns false'. Refute it at one input. -/
def dealHidesWrong : ChangeSpec := { name := "dealHides", fn := fun _ => fun
  | [d1, d2, d3, d4, d5, d6, d7] => { results := [.lit (.bool false)], args := [d1, d2, d3, d4, d5, d6, d7] }
  | _ => none }
def DealHidesWrongFalsely : Prop := dealHidesRow.holds Tryz.pinned (OpenSpec.ofChange dealHidesWrong)

/-- 'sacristylaw14.DealBytes': WHATEVER THE INPUT: true; the input reads as it did. -/
def dealBytesSpec : ChangeSpec := { name := "dealBytes", fn := fun _ => fun
  | [d1, d2, d3, d4] => { results := [.lit (.bool true)], args := [d1, d2, d3, d4] }
  | _ => none }
def dealBytesRow : OpenClaim := { program := "ytokhckjemidbpaagreatdoor", sum := "732dbd40831158a06c054cc21d89469cf35ddb95397fc69efd2645c4b7c8dea4", func := "sacristy/sacristylaw14.DealBytes", spec := "dealBytes", unfollowed := true, recurses := true, named := ["math/bits.overflowError", "sacristy/sha.firstState", "sacristy/sha.constants"], apart := false, laid := [("sacristy/sha.constants", laid_sacristy_sha_constants), ("sacristy/sha.firstState", laid_sacristy_sha_firstState)] }
def DealBytesSaid : Prop := dealBytesRow.holds Tryz.pinned (OpenSpec.ofChange dealBytesSpec)

/-- ITS FALSE NEIGHBOUR: 'it returns false'. Refute it at one input. -/
def dealBytesWrong : ChangeSpec := { name := "dealBytes", fn := fun _ => fun
  | [d1, d2, d3, d4] => { results := [.lit (.bool false)], args := [d1, d2, d3, d4] }
  | _ => none }
def DealBytesWrongFalsely : Prop := dealBytesRow.holds Tryz.pinned (OpenSpec.ofChange dealBytesWrong)

/-- 'sacristylaw14.DealAdds': WHATEVER THE INPUT: true; the input reads as it did. -/
def dealAddsSpec : ChangeSpec := { name := "dealAdds", fn := fun _ => fun
  | [d1, d2, d3, d4, d5, d6, d7] => { results := [.lit (.bool true)], args := [d1, d2, d3, d4, d5, d6, d7] }
  | _ => none }
def dealAddsRow : OpenClaim := { program := "ytokhckjemidbpaagreatdoor", sum := "732dbd40831158a06c054cc21d89469cf35ddb95397fc69efd2645c4b7c8dea4", func := "sacristy/sacristylaw14.DealAdds", spec := "dealAdds", unfollowed := true, recurses := true, named := ["math/bits.overflowError", "sacristy/sha.firstState", "sacristy/sha.constants"], apart := false, laid := [("sacristy/sha.constants", laid_sacristy_sha_constants), ("sacristy/sha.firstState", laid_sacristy_sha_firstState)] }
def DealAddsSaid : Prop := dealAddsRow.holds Tryz.pinned (OpenSpec.ofChange dealAddsSpec)

/-- ITS FALSE NEIGHBOUR: 'it returns false'. Refute it at one input. -/
def dealAddsWrong : ChangeSpec := { name := "dealAdds", fn := fun _ => fun
  | [d1, d2, d3, d4, d5, d6, d7] => { results := [.lit (.bool false)], args := [d1, d2, d3, d4, d5, d6, d7] }
  | _ => none }
def DealAddsWrongFalsely : Prop := dealAddsRow.holds Tryz.pinned (OpenSpec.ofChange dealAddsWrong)

/- THE SECOND FORM. 'bulk': how many values and letters a reading holds, each counted each time it is reached (what is shared counts as often as it is met; a slice's spare places count too). A statement '..UptoSaid' is the law's where the arguments, and the package variables that the reading takes, are together of bulk at most 1048576: NARROWER than '..Said'. Prove '..Said' where nothing that the law and all that it calls make is longer than what came in: it says more and counts as full. Else prove '..UptoSaid'. A law counts once. -/
mutual
def uptoBulk {H : Type} : DataW H → Nat
  | .lit (.string bytes) => bytes.length + 1
  | .lit _ => 1
  | .nil => 1
  | .ptr d => uptoBulk d + 1
  | .slice elems spare => uptoBulkAll elems + uptoBulkAll spare + 1
  | .agg parts => uptoBulkAll parts + 1
  | .iface _ d => uptoBulk d + 1
  | .map entries => uptoBulkEntries entries + 1
  | .held _ => 1
def uptoBulkAll {H : Type} : List (DataW H) → Nat
  | [] => 0
  | d :: r => uptoBulk d + uptoBulkAll r
def uptoBulkEntries {H : Type} : List (Lit × DataW H) → Nat
  | [] => 0
  | x :: r => uptoBulkEntry x + uptoBulkEntries r
def uptoBulkEntry {H : Type} : Lit × DataW H → Nat
  | (.string bytes, d) => bytes.length + uptoBulk d + 1
  | (_, d) => uptoBulk d + 1
 end
def uptoSmall : (H : Type) → List (DataW H) → Bool := fun _ ds => decide (uptoBulkAll ds ≤ 1048576)
def OpenSpec.upto (s : _root_.Go.ChangeSpec) : _root_.Go.OpenSpec := { _root_.Go.OpenSpec.ofChange s with cond := some uptoSmall }

/-- 'sacristylaw11.SignSigns', WHERE WHAT IT READS IS OF BULK AT MOST 1048576: true; the input reads as it did. -/
def signSignsUptoRow : OpenClaim := { program := "ytokhckjemidbpaagreatdoor", sum := "732dbd40831158a06c054cc21d89469cf35ddb95397fc69efd2645c4b7c8dea4", func := "sacristy/sacristylaw11.SignSigns", spec := "signSigns", unfollowed := true, recurses := true, named := ["math/bits.overflowError", "sacristy/sha.firstState", "sacristy/sha.constants"], apart := false, laid := [("sacristy/sha.constants", laid_sacristy_sha_constants), ("sacristy/sha.firstState", laid_sacristy_sha_firstState)], narrowed := true }
def SignSignsUptoSaid : Prop := signSignsUptoRow.holds Tryz.pinned (OpenSpec.upto signSignsSpec)

/-- 'sacristylaw11.SignVerifies', WHERE WHAT IT READS IS OF BULK AT MOST 1048576: true; the input reads as it did. -/
def signVerifiesUptoRow : OpenClaim := { program := "ytokhckjemidbpaagreatdoor", sum := "732dbd40831158a06c054cc21d89469cf35ddb95397fc69efd2645c4b7c8dea4", func := "sacristy/sacristylaw11.SignVerifies", spec := "signVerifies", unfollowed := true, recurses := true, named := ["math/bits.overflowError", "sacristy/sha.firstState", "sacristy/sha.constants"], apart := false, laid := [("sacristy/sha.constants", laid_sacristy_sha_constants), ("sacristy/sha.firstState", laid_sacristy_sha_firstState)], narrowed := true }
def SignVerifiesUptoSaid : Prop := signVerifiesUptoRow.holds Tryz.pinned (OpenSpec.upto signVerifiesSpec)

/-- 'sacristylaw11.SignBack', WHERE WHAT IT READS IS OF BULK AT MOST 1048576: true; the input reads as it did. -/
def signBackUptoRow : OpenClaim := { program := "ytokhckjemidbpaagreatdoor", sum := "732dbd40831158a06c054cc21d89469cf35ddb95397fc69efd2645c4b7c8dea4", func := "sacristy/sacristylaw11.SignBack", spec := "signBack", unfollowed := true, recurses := true, named := ["math/bits.overflowError", "sacristy/sha.firstState", "sacristy/sha.constants"], apart := false, laid := [("sacristy/sha.constants", laid_sacristy_sha_constants), ("sacristy/sha.firstState", laid_sacristy_sha_firstState)], narrowed := true }
def SignBackUptoSaid : Prop := signBackUptoRow.holds Tryz.pinned (OpenSpec.upto signBackSpec)

/-- 'sacristylaw11.SignExact', WHERE WHAT IT READS IS OF BULK AT MOST 1048576: true; the input reads as it did. -/
def signExactUptoRow : OpenClaim := { program := "ytokhckjemidbpaagreatdoor", sum := "732dbd40831158a06c054cc21d89469cf35ddb95397fc69efd2645c4b7c8dea4", func := "sacristy/sacristylaw11.SignExact", spec := "signExact", unfollowed := true, recurses := true, named := ["math/bits.overflowError", "sacristy/sha.firstState", "sacristy/sha.constants"], apart := false, laid := [("sacristy/sha.constants", laid_sacristy_sha_constants), ("sacristy/sha.firstState", laid_sacristy_sha_firstState)], narrowed := true }
def SignExactUptoSaid : Prop := signExactUptoRow.holds Tryz.pinned (OpenSpec.upto signExactSpec)

/-- 'sacristylaw14.DealNews', WHERE WHAT IT READS IS OF BULK AT MOST 1048576: true; the input reads as it did. -/
def dealNewsUptoRow : OpenClaim := { program := "ytokhckjemidbpaagreatdoor", sum := "732dbd40831158a06c054cc21d89469cf35ddb95397fc69efd2645c4b7c8dea4", func := "sacristy/sacristylaw14.DealNews", spec := "dealNews", unfollowed := true, recurses := true, named := ["math/bits.overflowError", "sacristy/sha.firstState", "sacristy/sha.constants"], apart := false, laid := [("sacristy/sha.constants", laid_sacristy_sha_constants), ("sacristy/sha.firstState", laid_sacristy_sha_firstState)], narrowed := true }
def DealNewsUptoSaid : Prop := dealNewsUptoRow.holds Tryz.pinned (OpenSpec.upto dealNewsSpec)

/-- 'sacristylaw14.DealRecovers', WHERE WHAT IT READS IS OF BULK AT MOST 1048576: true; the input reads as it did. -/
def dealRecoversUptoRow : OpenClaim := { program := "ytokhckjemidbpaagreatdoor", sum := "732dbd40831158a06c054cc21d89469cf35ddb95397fc69efd2645c4b7c8dea4", func := "sacristy/sacristylaw14.DealRecovers", spec := "dealRecovers", unfollowed := true, recurses := true, named := ["math/bits.overflowError", "sacristy/sha.firstState", "sacristy/sha.constants"], apart := false, laid := [("sacristy/sha.constants", laid_sacristy_sha_constants), ("sacristy/sha.firstState", laid_sacristy_sha_firstState)], narrowed := true }
def DealRecoversUptoSaid : Prop := dealRecoversUptoRow.holds Tryz.pinned (OpenSpec.upto dealRecoversSpec)

/-- 'sacristylaw14.DealBack', WHERE WHAT IT READS IS OF BULK AT MOST 1048576: true; the input reads as it did. -/
def dealBackUptoRow : OpenClaim := { program := "ytokhckjemidbpaagreatdoor", sum := "732dbd40831158a06c054cc21d89469cf35ddb95397fc69efd2645c4b7c8dea4", func := "sacristy/sacristylaw14.DealBack", spec := "dealBack", unfollowed := true, recurses := true, named := ["math/bits.overflowError", "sacristy/sha.firstState", "sacristy/sha.constants"], apart := false, laid := [("sacristy/sha.constants", laid_sacristy_sha_constants), ("sacristy/sha.firstState", laid_sacristy_sha_firstState)], narrowed := true }
def DealBackUptoSaid : Prop := dealBackUptoRow.holds Tryz.pinned (OpenSpec.upto dealBackSpec)

/-- 'sacristylaw14.DealHides', WHERE WHAT IT READS IS OF BULK AT MOST 1048576: true; the input reads as it did. -/
def dealHidesUptoRow : OpenClaim := { program := "ytokhckjemidbpaagreatdoor", sum := "732dbd40831158a06c054cc21d89469cf35ddb95397fc69efd2645c4b7c8dea4", func := "sacristy/sacristylaw14.DealHides", spec := "dealHides", unfollowed := true, recurses := true, named := ["math/bits.overflowError", "sacristy/sha.firstState", "sacristy/sha.constants"], apart := false, laid := [("sacristy/sha.constants", laid_sacristy_sha_constants), ("sacristy/sha.firstState", laid_sacristy_sha_firstState)], narrowed := true }
def DealHidesUptoSaid : Prop := dealHidesUptoRow.holds Tryz.pinned (OpenSpec.upto dealHidesSpec)

/-- 'sacristylaw14.DealBytes', WHERE WHAT IT READS IS OF BULK AT MOST 1048576: true; the input reads as it did. -/
def dealBytesUptoRow : OpenClaim := { program := "ytokhckjemidbpaagreatdoor", sum := "732dbd40831158a06c054cc21d89469cf35ddb95397fc69efd2645c4b7c8dea4", func := "sacristy/sacristylaw14.DealBytes", spec := "dealBytes", unfollowed := true, recurses := true, named := ["math/bits.overflowError", "sacristy/sha.firstState", "sacristy/sha.constants"], apart := false, laid := [("sacristy/sha.constants", laid_sacristy_sha_constants), ("sacristy/sha.firstState", laid_sacristy_sha_firstState)], narrowed := true }
def DealBytesUptoSaid : Prop := dealBytesUptoRow.holds Tryz.pinned (OpenSpec.upto dealBytesSpec)

/-- 'sacristylaw14.DealAdds', WHERE WHAT IT READS IS OF BULK AT MOST 1048576: true; the input reads as it did. -/
def dealAddsUptoRow : OpenClaim := { program := "ytokhckjemidbpaagreatdoor", sum := "732dbd40831158a06c054cc21d89469cf35ddb95397fc69efd2645c4b7c8dea4", func := "sacristy/sacristylaw14.DealAdds", spec := "dealAdds", unfollowed := true, recurses := true, named := ["math/bits.overflowError", "sacristy/sha.firstState", "sacristy/sha.constants"], apart := false, laid := [("sacristy/sha.constants", laid_sacristy_sha_constants), ("sacristy/sha.firstState", laid_sacristy_sha_firstState)], narrowed := true }
def DealAddsUptoSaid : Prop := dealAddsUptoRow.holds Tryz.pinned (OpenSpec.upto dealAddsSpec)

end Rows
end Go.Proofs.YtokhckjemidbpaaGreatDoor
