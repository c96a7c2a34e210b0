/- What New and Size do, as the law of New asks it. -/
import Derived.Test.YtcbhgfiafamflaaGreatDoorGqG
import Derived.Test.YtcbhgfiafamflaaGreatDoorGrpH
set_option maxRecDepth 1000000
set_option maxHeartbeats 16000000
namespace Go.Proofs.YtcbhgfiafamflaaGreatDoor
open Go Go.RowKit Go.Proofs.YtcbhgfiafamflaaGreatDoor.Flow
theorem g_lims (i : Nat) (hi : i < 3) : gP i < B32 3 ∧ gQ i < B32 3 ∧ gG i < B32 3 := by
 have h := g_bounds i hi
 have h1 : gP i < B32 3 := Nat.lt_of_lt_of_le h.2.2.2.2.2 (by decide)
 have h2 := gTimes_eq i hi
 refine ⟨h1, ?_, by omega⟩
 rcases Nat.eq_zero_or_pos (gTimes i) with h0 | h0
 ·rw [h0, Nat.mul_zero] at h2; omega
 ·have := Nat.le_mul_of_pos_right (gQ i) h0
  omega
theorem gChain_len : ∀ i, i < 3 → (gChain i).length ≤ 60
 | 0, _ => by decide
 | 1, _ => by decide
 | 2, _ => by decide
 | _ + 3, h => by omega
theorem grp_does : GrpDoes GroupAt Tabs where
 below h hb := h.below hb
 readyBelow h hb := h.below hb h.size
 lim h := h.lims
 new i w x y z pc nc cc hi hr hx hy hz hc := by
  obtain ⟨l1, l2, l3⟩ := g_lims i hi
  refine (gnew_fit (e := 3) (seed := []) hr hx l1 hy l2 hz l3 (part_nil w) hc (by rw [hc.len]; exact gChain_len i hi) (gChain_few i hi) (by decide)).mono ?_
  rintro en w' ⟨_, h0, _, hbl⟩
  rw [newSpec_g i hi] at h0
  obtain ⟨b, rfl, hg⟩ := h0 (by decide) rfl
  exact ⟨b, rfl, hg, hbl⟩
 exp h hv hu h1 h2 := gexp_fit h hv hu (by omega) (by omega)
 member h hv h1 := gmember_fit h hv (by omega)
end Go.Proofs.YtcbhgfiafamflaaGreatDoor
namespace Go.Proofs.YtcbhgfiafamflaaGreatDoor
open Go Go.RowKit Go.Proofs.YtcbhgfiafamflaaGreatDoor.Flow
theorem bases_does : BasesDoes GroupAt where
 gg h := gG_fit h
 hh h := gH_fit h
theorem new_does : NewDoes GroupAt Tabs where
 new hr hx lx hy ly hz lz hs _ _ hc hn hl := gnew_fit hr hx lx hy ly hz lz hs hc hn hl (by decide)
 size h := gsize_fit h
end Go.Proofs.YtcbhgfiafamflaaGreatDoor
