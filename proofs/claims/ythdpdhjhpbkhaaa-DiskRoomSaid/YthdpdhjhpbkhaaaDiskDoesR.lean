/-
  One act at both disks: Read. Conditions: as the theorem states.
-/
import Derived.Test.YthdpdhjhpbkhaaaDiskDoes
namespace Go.Proofs.Ythdpdhjhpbkhaaa.Dk
open Go.RowKit Go.Proofs.Ythdpdhjhpbkhaaa.Fld

set_option maxRecDepth 100000 in
set_option maxHeartbeats 3200000 in
theorem does_read (g r : Nat) (a : Acc) (w : World) (hd : a.d = 4) (p q : Int × List Int)
    (h1 : Calls Try.prog 18 #[.pointer (some ⟨g, 0, none⟩), .string a.nm] (boxed w a) (ReadIs (boxed w a) p))
    (h2 : ∀ w1, Below (boxed w a).heap.size (boxed w a) w1 → Calls Try.prog 30 #[.pointer (some ⟨r, 0, none⟩), .string a.nm] w1 (ReadIs w1 q)) :
    Calls Try.prog 13 #[.pointer (some ⟨g, 0, none⟩), .pointer (some ⟨r, 0, none⟩), actV a] w fun e w' => (∃ B, e = .returned (.bool B) ∧ (p = q → B = true)) ∧ Below w.heap.size w w' := by
  have hkp : Kept w a (boxed w a) := heap_alloc_new w _
  have hbx : Below w.heap.size w (boxed w a) := (Below.refl _ _).alloc (Nat.le_refl _) _
  have hsz : w.heap.size < (boxed w a).heap.size := by unfold boxed; rw [size_up]; omega
  have HK := Lib.hid (fun w1 (hB : Below (boxed w a).heap.size (boxed w a) w1) => (show Kept w a w1 from (hB.block _ hsz).trans hkp))
  have HBX := Lib.hid hbx
  have H1 := Lib.hid h1
  have H2 := Lib.hid h2
  clear h1 h2 hkp hbx hsz
  obtain ⟨d, nm, to, n, BA, bn, bc, bs, KA, kn, kc, ks⟩ := a
  simp only at hd
  subst hd
  unfold boxed at H1 H2 HK HBX
  unfold actV
  simp only at H1 H2
  obtain ⟨px, pz⟩ := p
  obtain ⟨qx, qz⟩ := q
  go_enter Try.func13, Try.ntmps13
  go_wp2_with (first | (go_at_call 18; refine H1.out.mono ?_; rintro e w1 ⟨A1, n1, c1, rfl, hs1, _, hB1⟩; obtain ⟨k0, k1, k2, k3, k4, k5⟩ := (HK.out w1 hB1).cells; have HS1 := Lib.hid hs1; have HB1 := Lib.hid hB1; have HP := Lib.hid (H2.out w1 hB1); clear hs1 hB1) | (go_at_call 30; refine HP.out.mono ?_; rintro e w2 ⟨A2, n2, c2, rfl, hs2, _, hB2⟩; have hcv2 := conv_str hs2.1 c2; have hcv1 := conv_str (HS1.out.1.below hB2) c1; have heq := str_eq HS1.out.1.2.2.1 hs2.1.2.2.1; have HB2 := Lib.hid hB2; clear hs2 hB2))
  all_goals go_ret
  · refine ⟨⟨_, rfl, fun h => ?_⟩, (HBX.out.trans (HB1.out.mono HBX.out.size)).trans (HB2.out.mono (Nat.le_trans HBX.out.size HB1.out.size))⟩
    injection h with h5 h6
    subst h5
    simp
  · refine ⟨⟨_, rfl, fun h => ?_⟩, (HBX.out.trans (HB1.out.mono HBX.out.size)).trans (HB2.out.mono (Nat.le_trans HBX.out.size HB1.out.size))⟩
    injection h with h5 h6
    contradiction
end Go.Proofs.Ythdpdhjhpbkhaaa.Dk
