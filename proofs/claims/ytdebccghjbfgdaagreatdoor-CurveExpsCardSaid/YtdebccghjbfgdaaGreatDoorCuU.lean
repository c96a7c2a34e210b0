/- Sums, products and values of polynomials as what a region's slots hold. -/
import Derived.Test.YtdebccghjbfgdaaGreatDoorCuS
import Derived.Test.YtdebccghjbfgdaaGreatDoorCuN
import Derived.Test.YtdebccghjbfgdaaGreatDoorCuJ
namespace Go.Proofs.YtdebccghjbfgdaaGreatDoor
open Go Go.RowKit Go.Proofs.YtdebccghjbfgdaaGreatDoor.Flow
set_option maxRecDepth 100000

/-- A product's row. -/
def MuF (q L : Nat) (As Bs : List Nat) (v : Value) (w : World) : Prop := ∃ g acc, v = .slice (some ⟨g, 0, none⟩) L L ∧ PList w 33 (some ⟨g, 0, none⟩) L L acc ∧ PrOf q As Bs acc
theorem MuF.below {q L : Nat} {As Bs : List Nat} {v : Value} {w w' : World} (h : MuF q L As Bs v w) (hb : Below w.heap.size w w') : MuF q L As Bs v w' := let ⟨g, acc, h1, h2, h3⟩ := h; ⟨g, acc, h1, h2.below hb, h3⟩
theorem addp_fit {w : World} {r q e1 e2 n c m d : Nat} {p p2 : Option Addr} {As Bs : List Nat} (hR : Ring w r q 33) (hA : PList w e1 p n c As) (hB : PList w e2 p2 m d Bs) (h1 : e1 ≤ 200) (h2 : e2 ≤ 200) (hn : n ≤ 1000) (hm : m ≤ 1000) :
    Calls Tryz.prog 42 #[.pointer (some ⟨r, 0, none⟩), .slice p n c, .slice p2 m d] w fun en w' => ∃ u, en = .returned u ∧ PlF (max n m) (addQ q As Bs) u w' ∧ Below w.heap.size w w' := by
  refine (cadd_fit hR hA hB h1 h2 hn hm).mono ?_
  rintro en w9 ⟨rfl, h, hb⟩
  exact ⟨_, rfl, ⟨_, rfl, h⟩, hb⟩
theorem mulp_fit {w : World} {r q e1 e2 n c m d : Nat} {p p2 : Option Addr} {As Bs : List Nat} (hR : Ring w r q 33) (hA : PList w e1 p n c As) (hB : PList w e2 p2 m d Bs) (h1 : e1 ≤ 200) (h2 : e2 ≤ 200) (hn : n ≤ 1000) (hm : m ≤ 1000) (hn0 : 0 < n) (hm0 : 0 < m) :
    Calls Tryz.prog 44 #[.pointer (some ⟨r, 0, none⟩), .slice p n c, .slice p2 m d] w fun en w' => ∃ u, en = .returned u ∧ MuF q (n + m - 1) As Bs u w' ∧ Below w.heap.size w w' := by
  refine (cmul_fit hR hA hB h1 h2 hn hm hn0 hm0).mono ?_
  rintro en w9 ⟨g, acc, rfl, h, k, hb⟩
  exact ⟨_, rfl, ⟨g, acc, rfl, h, k⟩, hb⟩
theorem evalp_fit {w : World} {r q n ex X N : Nat} {As : List Nat} {u v : Value} (hR : Ring w r q 33) (hA : PlF n As u w) (hX : Fit ex X v w) (hex : ex ≤ 200) (hn : n ≤ 1000000) (hN : horQ q X As = N) :
    Calls Tryz.prog 37 #[.pointer (some ⟨r, 0, none⟩), u, v] w fun en w' => ∃ x, en = .returned x ∧ Fit 33 N x w' ∧ Below w.heap.size w w' := by
  obtain ⟨g, rfl, h⟩ := hA
  subst hN
  exact eval_fit hR h hX (by decide) hex hn
theorem evalm_fit {w : World} {r q L ex X N : Nat} {As Bs : List Nat} {u v : Value} (hR : Ring w r q 33) (hq : 2 ≤ q) (hA : MuF q L As Bs u w) (hX : Fit ex X v w) (hex : ex ≤ 200) (hn : L ≤ 1000000) (hN : horQ q X As * horQ q X Bs % q = N) :
    Calls Tryz.prog 37 #[.pointer (some ⟨r, 0, none⟩), u, v] w fun en w' => ∃ x, en = .returned x ∧ Fit 33 N x w' ∧ Below w.heap.size w w' := by
  obtain ⟨g, acc, rfl, h, k⟩ := hA
  subst hN
  rw [← hor_mul hq k]
  exact eval_fit hR h hX (by decide) hex hn
theorem evalx_fit {w : World} {b P Q G H e ex n c X N : Nat} {p : Option Addr} {As : List Nat} {v : Value} (hG : GroupAt w b P Q G H) (hA : PList w e p n c As) (hX : Fit ex X v w) (he : e ≤ 200) (hex : ex ≤ 200) (hn : n ≤ 1000000) (hN : horE P (X % Q) As = N) :
    Calls Tryz.prog 41 #[.pointer (some ⟨b, 0, none⟩), .slice p n c, v] w fun en w' => ∃ x, en = .returned x ∧ Fit 33 N x w' ∧ Below w.heap.size w w' := by
  subst hN
  exact evalexp_fit hG hA hX he hex hn
theorem evaln_fit {w : World} {r q e ex n c X N : Nat} {p : Option Addr} {As : List Nat} {v : Value} (hR : Ring w r q 33) (hA : PList w e p n c As) (hX : Fit ex X v w) (he : e ≤ 200) (hex : ex ≤ 200) (hn : n ≤ 1000000) (hN : horQ q X As = N) :
    Calls Tryz.prog 37 #[.pointer (some ⟨r, 0, none⟩), .slice p n c, v] w fun en w' => ∃ x, en = .returned x ∧ Fit 33 N x w' ∧ Below w.heap.size w w' := by
  subst hN
  exact eval_fit hR hA hX he hex hn

end Go.Proofs.YtdebccghjbfgdaaGreatDoor
