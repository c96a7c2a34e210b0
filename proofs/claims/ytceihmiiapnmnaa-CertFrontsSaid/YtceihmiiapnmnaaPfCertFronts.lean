/- The law CertFronts answers true for every input: the beginning of a chain that holds holds, and with one step that doesn't, wherever, none does. Conditions: those of the given statement alone. -/
import Derived.Test.YtceihmiiapnmnaaRows
import Derived.Test.YtceihmiiapnmnaaCertO
import Derived.Test.YtceihmiiapnmnaaCertP
import Derived.Test.YtceihmiiapnmnaaCertR
import Derived.Test.YtceihmiiapnmnaaCertI
import Derived.Test.YtceihmiiapnmnaaCertSmalls
import Derived.Test.YtceihmiiapnmnaaCpK
import Derived.WalkKit
import Derived.ProofKit
import Derived.OpenShut
import Derived.ShutString
import Derived.ChangeOld
import Derived.Below
import Derived.SizedLaws
namespace Go.Proofs.Ytceihmiiapnmnaa.certFronts
open Go.ChangeShapes Go.WideShapes Go.ChangeAt Go.RowKit
set_option linter.unusedVariables false

theorem own : ownKnob Try.prog.godebug = none := by kernel_rfl
theorem laidOut : laidOutB Try.prog = true := by kernel_rfl

/-- What the walk is told of a slice of integers that came in: nil, or a row of 'cap' cells. -/
def IsRow (k : IntKind) (w : World) (a : Option Addr) (len cap : Nat) (zs : List Int) : Prop :=
  (a = none ∧ len = 0 ∧ cap = 0 ∧ zs = []) ∨
  ∃ x, a = some x ∧ len ≤ cap ∧ cap ≤ maxLen ∧ zs.length = cap ∧ (∀ i, i < zs.length → w.cell? (x.add i) = some (.int k (zs.getD i 0))) ∧ ∀ n ∈ zs, (Lit.int k n).wf = true

theorem walk (a0 : Option Addr) (len0 cap0 : Nat) (l0 : List StepN) (a1 : Int) (s2 : StepN) (q2 : Option Addr) (m2 d2 : Nat) (w : World) (w0 : ClaimsIn w a0 len0 cap0 l0) (w1 : (Lit.int .i64 a1).wf = true) (w2 : RowIn w .u64 q2 m2 d2 s2.ps ∧ U64 s2.n ∧ U64 s2.base ∧ ∀ y ∈ s2.ps, U64 y) :
    Calls Try.prog 6 #[.slice a0 len0 cap0, .int .i64 a1, .agg #[.int .u64 (s2.n : Nat), .int .u64 (s2.base : Nat), .slice q2 m2 d2]] w fun e w' => e = .returned (.bool true) ∧ Below w.heap.size w w' := by
  exact cfronts_calls holds_does check_does w a0 len0 cap0 l0 w0 a1 (wf_i64 w1) s2 q2 m2 d2 w2.1 w2.2

set_option maxRecDepth 100000 in
theorem lifted (os : Os) (started : os.Started) (H : Type) (enc : TypeId × Value → H) :
    ReturnsInHanded {} Try.checked os 6 .any (Rows.certFrontsSpec.pre6 enc Try.prog Try.f6 Rows.certFrontsRow.domain false) (Rows.certFrontsSpec.post enc Try.prog Try.f6 false true false false) := by
  refine returnsInHanded_of_change_sized (C := Try.checked) own started (by kernel_rfl) Try.func6
    (ChangeSpec.witness6 (enc := enc) (C := Try.checked) false ⟨#[], #[.slice none 0 0, .int .i64 0, .agg #[.int .u64 0, .int .u64 0, .slice none 0 0]], []⟩ 8 (by kernel_rfl) (by kernel_rfl) (by kernel_rfl) (by kernel_rfl)) ?_
  intro W base args ds gs before hval0 hW hcnd hsz0 _
  have hval : ∀ (j : Nat) t v, Try.f6.params[j]? = some t → args[j]? = some v → Value.okWide Try.prog W .any base t v := hval0
  have hsz : (DataW.weightsEach Try.prog (Try.f6.params.toList ++ Rows.certFrontsSpec.plain.varTypes Try.prog) (ds ++ gs)).all (· ≤ reachBytes) = true := hsz0
  have hW' := hW
  obtain ⟨p, q, hA0, hV, rfl, hfz, hnd⟩ := hW
  have hA : DataW.TrodAll enc Try.prog W 0 (fun _ => true) true Try.f6.params.toList args.toList ds p := hA0
  rw [Try.params6] at hA hval hsz
  obtain ⟨v0, vs0, d0, ds0, p0, q0, hargs, rfl, rfl, h0, r0⟩ := trodAll_cons hA
  obtain ⟨v1, vs1, d1, ds1, p1, q1, rfl, rfl, rfl, h1, r1⟩ := trodAll_cons r0
  obtain ⟨v2, vs2, d2, ds2, p2, q2, rfl, rfl, rfl, h2, r2⟩ := trodAll_cons r1
  obtain ⟨rfl, rfl, rfl⟩ := trodAll_nil r2
  obtain rfl : args = #[v0, v1, v2] := by cases args; simp_all
  obtain ⟨rfl, rfl⟩ := trodVars_none hV
  obtain ⟨a0, len0, cap0, rfl⟩ := okWide_slice Try.underlying22 (hval 0 22 v0 rfl rfl)
  have k0 := h0
  have lt0 : ∀ x ∈ p0, x.block < W.heap.size := by obtain ⟨m, hm⟩ := k0; exact DataW.trod_lt m _ _ _ hm
  obtain ⟨l0, w0⟩ : ∃ l, ClaimsIn W a0 len0 cap0 l := by
    obtain ⟨fuel, hf⟩ := h0
    exact claims_of (x := (d0, p0)) hf
  obtain ⟨a1, rfl, rfl, rfl, w1⟩ := open_int Try.underlying3 (hval 1 3 v1 rfl rfl) h1
  obtain ⟨cs2, rfl, hsz2⟩ := okWide_struct Try.underlying35 (hval 2 35 v2 rfl rfl)
  have k2 := h2
  have lt2 : ∀ x ∈ p2, x.block < W.heap.size := by obtain ⟨m, hm⟩ := k2; exact DataW.trod_lt m _ _ _ hm
  rw [show Try.prog.cellsOf 35 = 3 by kernel_rfl] at hsz2
  obtain ⟨s2, q2, m2, d2x, ec2, w2⟩ : ∃ (s : StepN) (q : Option Addr) (m d : Nat), cs2 = #[.int .u64 (s.n : Nat), .int .u64 (s.base : Nat), .slice q m d] ∧ RowIn W .u64 q m d s.ps ∧ U64 s.n ∧ U64 s.base ∧ ∀ y ∈ s.ps, U64 y := by
    obtain ⟨fuel, hf⟩ := h2
    obtain ⟨v0, v1, v2, rfl⟩ : ∃ v0 v1 v2, cs2 = #[v0, v1, v2] := ⟨cs2[0], cs2[1], cs2[2], by
      apply Array.ext
      · simp [hsz2]
      · intro j h1 h2
        match j, h2 with
        | 0, _ => rfl
        | 1, _ => rfl
        | 2, _ => rfl⟩
    obtain ⟨s, q, m, d, rfl, rfl, rfl, g⟩ := claim_of (x := (d2, p2)) hf
    exact ⟨s, q, m, d, rfl, g⟩
  subst ec2
  clear hA0 hval0 hsz hsz0
  refine (walk a0 len0 cap0 l0 a1 s2 q2 m2 d2x W w0 w1 w2).mono fun e W' ⟨he, bel⟩ => ?_
  subst he
  exact ⟨_, rfl, _, _, _, [], _, [], hW', trodAll_mk1 (shut_bool Try.underlying4 _), (trodAll_cons_mk (Below.trod laidOut (by kernel_rfl) (of_decide_eq_true (by kernel_rfl)) k0 bel lt0) (trodAll_cons_mk (shut_int Try.underlying3 w1) (trodAll_cons_mk (Below.trod laidOut (by kernel_rfl) (of_decide_eq_true (by kernel_rfl)) k2 bel lt2) trodAll_mk0))), rfl, bel.frame _, fun h => by cases h⟩

theorem over : Rows.certFrontsRow.holds Try.pinned (OpenSpec.ofChange Rows.certFrontsSpec) :=
  OpenClaim.holds_of_wide 6 Try.f6 rfl rfl rfl rfl rfl rfl rfl ⟨rfl, rfl, rfl, rfl, rfl⟩ rfl rfl rfl rfl rfl (by kernel_rfl) Try.func6 (by kernel_rfl)
    (of_decide_eq_true (by kernel_rfl)) (by unfold Func.isWrapper; first | (rw [if_pos (by decide +kernel)]; kernel_rfl) | (rw [if_neg (by decide +kernel)]; exact ⟨rfl, rfl⟩))
    (fun os started H enc _ => lifted os started H enc)

/-- THE STATEMENT. -/
theorem proved : Rows.CertFrontsSaid := over
#print axioms proved
end Go.Proofs.Ytceihmiiapnmnaa.certFronts
