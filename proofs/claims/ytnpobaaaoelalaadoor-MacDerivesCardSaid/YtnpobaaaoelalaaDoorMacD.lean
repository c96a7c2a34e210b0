/- A key out of a secret: the calls, and the document's. -/
import Derived.Test.YtnpobaaaoelalaaDoorRefE
namespace Go.Proofs.YtnpobaaaoelalaaDoor
open Go Go.RowKit Go.Proofs.YtnpobaaaoelalaaDoor.Flow

set_option maxHeartbeats 1000000 in
set_option maxRecDepth 100000 in
theorem extract_calls (w : World) (pk : Option Addr) (nk ck : Nat) (salt : List Nat) (ps : Option Addr) (ns cs : Nat) (secret : List Nat) (hT : Tabs w) (hK : PartOk w ⟨pk, nk, ck, salt⟩) (hS : PartOk w ⟨ps, ns, cs, secret⟩) :
    Calls Tryd.prog 21 #[.slice pk nk ck, .slice ps ns cs] w (GivesSum (tagged salt secret) w) := by
  have hb : Below w.heap.size w (w.alloc (.cells #[.slice ps ns cs] 25)) := (Below.refl _ _).alloc (Nat.le_refl _) _
  have hz := hb.size
  have HC : Hold _ := ⟨macTag_calls (w.alloc (.cells #[.slice ps ns cs] 25)) pk nk ck salt _ _ _ [⟨ps, ns, cs, secret⟩] (hT.below hb hT.size) (hK.below hb).row hK.bytes (parts1 w ⟨ps, ns, cs, secret⟩ hS)⟩
  have HB : Hold _ := ⟨hb⟩
  clear hT hK hS hb
  go_enter Tryd.func21, Tryd.ntmps21
  go_wp2_with fail
  refine HC.out.mono ?_
  rintro e w1 ⟨q, rfl, hq, hb1, hk⟩
  rw [whole_one] at hk
  go_wp2
  go_ret
  exact ⟨q, rfl, by omega, bstepS HB.out hb1, hk⟩

set_option maxHeartbeats 1000000 in
set_option maxRecDepth 100000 in
theorem derive_calls (w : World) (pk : Option Addr) (nk ck : Nat) (salt : List Nat) (ps : Option Addr) (ns cs : Nat) (secret : List Nat) (pi : Option Addr) (ni ci : Nat) (info : List Nat) (n : Nat) (hT : Tabs w) (hK : PartOk w ⟨pk, nk, ck, salt⟩) (hS : PartOk w ⟨ps, ns, cs, secret⟩) (hI : PartOk w ⟨pi, ni, ci, info⟩) (hn : n ≤ 8160) :
    Calls Tryd.prog 19 #[.slice pk nk ck, .slice ps ns cs, .slice pi ni ci, .int .i64 n] w (GivesExp n ((exps (hmac salt secret) info ((n + 31) / 32)).take n) w) := by
  have HC : Hold _ := ⟨extract_calls w pk nk ck salt ps ns cs secret hT hK hS⟩
  have HI : Hold (PartOk w ⟨pi, ni, ci, info⟩) := ⟨hI⟩
  have HT : Hold (Tabs w) := ⟨hT⟩
  clear hT hK hS hI
  go_enter Tryd.func19, Tryd.ntmps19
  go_wp2_with fail
  refine HC.out.mono ?_
  rintro e w1 ⟨q, rfl, hq, hb1, hk⟩
  have hr : RowIn w1 .u8 (some ⟨q, 0, none⟩) 32 32 (hmac salt secret) := ⟨(hmac_length _ _).symm, Nat.le_refl _, by omega, fun _ => hk.row (hmac_length _ _).symm (Nat.le_refl _) (by omega)⟩
  go_wp2_with fail
  refine (expand_calls w1 _ _ _ (hmac salt secret) pi ni ci info n (HT.out.below hb1 HT.out.size) hr (hmac_bytes _ _) (HI.out.below hb1) hn).mono ?_
  rintro e w2 ⟨p, rfl, hr2, hn2, hb2, hz2⟩
  have hz := hb1.size
  have HE : Hold _ := ⟨hr2⟩
  have HN : Hold (New w.heap.size p ∧ (p = none → n = 0)) := ⟨hn2.mono hz, hz2⟩
  clear hr2 hn2 hz2 hr hk
  go_wp2
  exact bodyPost_ret (v := .tuple #[.slice p n n, .int .i64 0]) (by simp [results, Tryd.results19, go_sem]) rfl ⟨p, rfl, HE.out, HN.out.1, bstepS hb1 hb2, HN.out.2⟩

set_option maxHeartbeats 1000000 in
set_option maxRecDepth 100000 in
theorem refderive_calls (w : World) (pk : Option Addr) (nk ck : Nat) (salt : List Nat) (ps : Option Addr) (ns cs : Nat) (secret : List Nat) (pi : Option Addr) (ni ci : Nat) (info : List Nat) (n : Nat) (hK : PartOk w ⟨pk, nk, ck, salt⟩) (zk : pk = none → ck = 0) (hS : PartOk w ⟨ps, ns, cs, secret⟩) (zs : ps = none → cs = 0) (hI : PartOk w ⟨pi, ni, ci, info⟩) (zi : pi = none → ci = 0)
    (hnk : nk ≤ 1000) (hns : ns ≤ 1000) (hni : ni ≤ 1000) (hn : n ≤ 8160) :
    Calls Tryd.prog 20 #[.slice pk nk ck, .slice ps ns cs, .slice pi ni ci, .int .i64 n] w (GivesOwn ((exps (hmac salt secret) info ((n + 31) / 32)).take n) w) := by
  have HC : Hold _ := ⟨reftag_calls w pk nk ck salt ps ns cs secret hK.row hK.bytes zk hnk hS zs (by omega)⟩
  have HI : Hold (PartOk w ⟨pi, ni, ci, info⟩ ∧ (pi = none → ci = 0)) := ⟨hI, zi⟩
  clear hK hS hI zk zs zi
  go_enter Tryd.func20, Tryd.ntmps20
  go_wp2_with fail
  refine HC.out.mono ?_
  rintro e w1 ⟨v, rfl, ho, hb1⟩
  obtain ⟨H, hH⟩ : ∃ H, hmac salt secret = H := ⟨_, rfl⟩
  have hl : H.length ≤ 1000 := by rw [← hH, hmac_length]; omega
  have h8 : Bytes8 H := by rw [← hH]; exact hmac_bytes _ _
  have HE : Hold (hmac salt secret = H) := ⟨hH⟩
  rw [hH] at ho
  clear hH
  refine ho.elim (fun p c hv hr hnw hzp => ?_)
  clear ho
  subst hv
  have HR : Hold _ := ⟨refexpand_calls w1 p H.length c H pi ni ci info n ⟨hr, h8⟩ hzp (HI.out.1.below hb1) HI.out.2 hl hni hn⟩
  clear hr hnw hzp h8
  go_wp2_with fail
  refine HR.out.mono ?_
  rintro e w2 ⟨v, rfl, ho2, hb2⟩
  have HO : Hold _ := ⟨ho2⟩
  have hz := hb1.size
  clear ho2
  go_wp2
  go_ret
  exact ⟨v, rfl, by rw [HE.out]; exact HO.out.mono hz, bstepS hb1 hb2⟩
end Go.Proofs.YtnpobaaaoelalaaDoor
