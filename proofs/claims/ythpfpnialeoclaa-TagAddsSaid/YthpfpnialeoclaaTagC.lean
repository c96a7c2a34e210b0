/- slices.Chunk of bytes: what its function tells. -/
import Derived.Test.YthpfpnialeoclaaMid
import Derived.Test.YthpfpnialeoclaaFlowR
import Derived.Test.YthpfpnialeoclaaTagX
import Derived.Shelf.Abstract
import Derived.Shelf.RegionOpen
import Derived.OwnWalkIn
import Derived.TacticsInMore
import Derived.LoopNIn
import Derived.LoopIn
namespace Go.Proofs.Ythpfpnialeoclaa
open Go Go.RowKit Go.Shelf Go.Proofs.Ythpfpnialeoclaa.Flow
attribute [local go_sem] Oper.semAt_some

set_option maxHeartbeats 1000000 in
theorem chunk_calls (w : World) (p : Option Addr) (n c : Nat) :
    Calls Try.prog 30 #[.slice p n c, .int .i64 16] w fun e w' => e = .returned (.func (.func 44) #[] #[.pointer (some ⟨w.heap.size, 0, none⟩), .pointer (some ⟨w.heap.size + 1, 0, none⟩)]) ∧
      w' = (w.alloc (.cells #[.slice p n c] 22)).alloc (.cells #[.int .i64 16] 3) := by
  go_enter Try.func30, Try.ntmps30
  go_wp2
  go_ret
  exact ⟨rfl, rfl⟩

/-- The k-th part. -/
def part (b off len k : Nat) : Value := .slice (some ⟨b, off + 16 * k, none⟩) (min 16 (len - 16 * k)) (min 16 (len - 16 * k))

set_option maxRecDepth 100000 in
set_option maxHeartbeats 4000000 in
theorem chunk1_tells (n B l b1 b2 b off len cap N : Nat) (p : Option Addr) (hp : 0 < len → p = some ⟨b, off, none⟩) (hlc : len ≤ cap) (hlen : len ≤ 1000000) (hN : len ≤ 16 * N) (hN2 : 16 * N < len + 16) (Kp : World → World → Prop) (W : World)
    (hc1 : W.cell? ⟨b1, 0, none⟩ = some (.slice p len cap)) (hc2 : W.cell? ⟨b2, 0, none⟩ = some (.int .i64 16))
    (hkp : ∀ A C, Kp A C → ∀ u, (A.cell? ⟨b1, 0, none⟩ = some u → C.cell? ⟨b1, 0, none⟩ = some u) ∧ (A.cell? ⟨b2, 0, none⟩ = some u → C.cell? ⟨b2, 0, none⟩ = some u)) :
    Tells Fence.wide n Try.prog 44 #[.pointer (some ⟨b1, 0, none⟩), .pointer (some ⟨b2, 0, none⟩)] B l N Kp (fun k v _ => v = part b off len k) W := by
  intro J hJ hY h0
  have HJ : Hold (OwnFrom B J) := ⟨hJ⟩
  have HY : Hold _ := ⟨hY⟩
  have HK : Hold _ := ⟨hkp⟩
  clear hJ hY hkp
  refine callsIn_of_wp Try.func44 rfl trivial ?_ rfl
  simp only [Try.ntmps44, List.size_toArray, List.length_cons, List.length_nil, Nat.reduceAdd, Nat.reduceSub, Array.replicate_succ, Array.replicate_zero, List.push_toArray, List.append_toArray, List.nil_append, List.cons_append]
  gi_wp2
  gi_loopw [4] (fun i wr => ∃ k : Nat, k ≤ N ∧ i = .int .i64 ((16 * k : Nat) : Int) ∧ Hold (J k wr) ∧ Hold (wr.cell? ⟨b1, 0, none⟩ = some (.slice p len cap)) ∧ Hold (wr.cell? ⟨b2, 0, none⟩ = some (.int .i64 16)))
    (fun i _ => 16 * N - (intOf i).toNat)
  case atStart => exact ⟨0, by omega, rfl, ⟨h0⟩, ⟨hc1⟩, ⟨hc2⟩⟩
  case round =>
    obtain ⟨k, hk, rfl, HJk, HC1, HC2⟩ := hrel
    obtain ⟨I, hI⟩ : ∃ I, 16 * k = I := ⟨_, rfl⟩
    rw [hI]
    by_cases hkn : k < N
    · have hIl : I < len := by omega
      obtain rfl := hp (by omega)
      have c1 := HC1.out
      have c2 := HC2.out
      obtain ⟨m, hm⟩ : ∃ m, min 16 (len - I) = m := ⟨_, rfl⟩
      have HI : Hold _ := ⟨hI⟩
      have HM : Hold _ := ⟨hm⟩
      clear hI hm
      gi_wp2_with fail
      refine wpIn_region_dutiesR (Fe := Fence.wide) (by kernel_rfl) (by kernel_rfl) (by kernel_rfl) (fun _ => trivial) rfl
        [some (.int .i64 16), some (.slice (some ⟨b, off, none⟩) len cap), some (.int .i64 (I : Nat)), some (.slice (some ⟨b, off + I, none⟩) (len - I) (cap - I)), some (.int .i64 ((len - I : Nat) : Int)), some (.int .i64 (m : Nat)), some (.int .i64 (m : Nat))]
        [false, false, false, false, false, false, false] rfl
        (fun w1 w2 => w1 = w2) (fun _ _ w' => w' = wr.drew) (fun _ _ _ => True) (fun _ _ _ _ _ _ => trivial) rfl ?_ ?_
      · simp only [DutiesR, Nat.reduceAdd]
        refine ⟨?_, ?_, ?_, ?_, ?_, ?_, ?_, trivial⟩
        case refine_4 =>
          intro D sp w' hD hW hdp hbx'
          obtain rfl := hbx'
          have hIle : I ≤ len := by omega
          have hci : ¬ cap = I := by omega
          simp [askedR, Region.wanted, Oper.givesR, execOp, Act.eval, Act.put, go_sem, hIle, hci]
        case refine_6 =>
          intro D sp w' hD hW hdp hbx'
          obtain rfl := hbx'
          by_cases h16 : 16 ≤ len - I
          · have hm : m = 16 := by have := HM.out; omega
            have h16' : (16 : Int) ≤ ((len - I : Nat) : Int) := by omega
            subst hm
            simp [askedR, Region.wanted, Oper.givesR, Act.eval, Act.put, go_sem]
            intro h; omega
          · have hm : m = len - I := by have := HM.out; omega
            have h16' : ¬ (16 : Int) ≤ ((len - I : Nat) : Int) := by omega
            have h16'' : ((len - I : Nat) : Int) < 16 := by omega
            subst hm
            simp [askedR, Region.wanted, Oper.givesR, Act.eval, Act.put, go_sem, h16'']
        all_goals
          intro D sp w' hD hW hdp hbx'
          obtain rfl := hbx'
          simp [askedR, Region.wanted, Oper.givesR, execOp, Act.eval, Act.put, go_sem, c1, c2]
      · intro sp w2 _ hw
        obtain rfl := hw
        simp only [frameOf]
        have hpart : part b off len k = .slice (some ⟨b, off + I, none⟩) m m := by unfold part; rw [HI.out, HM.out]
        obtain ⟨fn, tmps, assign, body, hy, hR⟩ := HY.out k _ wr.drew hkn (OwnFrom.step HJ.out HJk.out (Below.refl _ _).drew) rfl
        rw [hpart] at hy
        have HR : Hold _ := ⟨hR⟩
        have c1' : wr.drew.cell? ⟨b1, 0, none⟩ = some (.slice (some ⟨b, off, none⟩) len cap) := c1
        have c2' : wr.drew.cell? ⟨b2, 0, none⟩ = some (.int .i64 16) := c2
        have hml : I + m ≤ len := by have := HM.out; omega
        have hci : ¬ cap = I := by omega
        have hm0 : ¬ I + m = I := by have := HM.out; omega
        clear hpart hR c1 c2
        go_simp
        gi_wp2_with fail
        refine ⟨fun h => by simp [Fence.wide] at h, HR.out.mono ?_⟩
        rintro e W3 ⟨rfl, hJ3, hk3⟩
        obtain ⟨k1, k2⟩ := HK.out _ _ hk3 (.slice (some ⟨b, off, none⟩) len cap)
        have d1 := k1 c1'
        have d2 := (HK.out _ _ hk3 (.int .i64 16)).2 c2'
        have HJ3 : Hold _ := ⟨hJ3⟩
        have hI16 : (I : Int) + 16 = ((16 * (k + 1) : Nat) : Int) := by have := HI.out; omega
        have D1 : Hold _ := ⟨d1⟩
        have D2 : Hold _ := ⟨d2⟩
        have HEI : Hold _ := ⟨hI16⟩
        clear hJ3 hk3 k1 k2 c1' c2' hy hI16
        gi_wp2
        go_roundw
        case rel => exact ⟨k + 1, by omega, by rw [← HEI.out], HJ3, D1, D2⟩
        case measure => have := HI.out; simp [intOf]; omega
    · have hkN : k = N := by omega
      subst hkN
      have hIl : ¬ (I : Int) < len := by omega
      have c1 := HC1.out
      gi_wp2
      go_end0
      exact ⟨⟨_, rfl⟩, HJk.out⟩

end Go.Proofs.Ythpfpnialeoclaa
