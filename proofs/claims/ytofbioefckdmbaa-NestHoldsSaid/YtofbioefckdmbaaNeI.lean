/-
  Layer 14, the document's own: Back. Conditions: the limits and the sales can be read.
-/
import Derived.Test.YtofbioefckdmbaaNeH
namespace Go.Proofs.Ytofbioefckdmbaa.Ne
open Go.RowKit Go.Proofs.Ytofbioefckdmbaa.Qu Go.Proofs.Ytofbioefckdmbaa.Fld
set_option linter.unusedVariables false

set_option maxRecDepth 100000 in
set_option maxHeartbeats 1600000 in
theorem rback_any (A : Option Addr) (n cap : Nat) (L : List Int) (B : Option Addr) (m cap2 : Nat) (S : List Int) (c d : Int) (w : World) (ha : RdI w A n L) (hb : RdI w B m S) (hd : -9223372036854775808 ≤ d ∧ d ≤ 9223372036854775807) :
    Calls Try.prog 21 #[.slice A n cap, .slice B m cap2, .int .i64 c, .int .i64 d] w (TwoI w (backL L S c d) (backE L S c d)) := by
  have HHA := Lib.hid (rleft_any A n cap L B m cap2 S c w ha hb)
  obtain ⟨E, hE⟩ : ∃ E, backE L S c d = E := ⟨_, rfl⟩
  obtain ⟨K, hK⟩ : ∃ K, backL L S c d = K := ⟨_, rfl⟩
  have HE := Lib.hid hE
  have HK := Lib.hid hK
  rw [hE, hK]
  have HNO := Lib.hid (show E ≠ 0 → K = [] from fun h => by rw [← HK.out]; exact backL_no (by rw [HE.out]; exact h))
  clear hE hK
  have HB := Lib.hid hb
  have HL := Lib.hid ha.1
  have HS := Lib.hid hb.1
  clear ha hb
  by_cases h1 : hasP L S c
  · rw [lftV_pos h1, lftE_pos h1] at HHA
    unfold Tup at HHA
    generalize lft L S c.toNat = x0 at *
    have hE : E = if d < 1 ∨ S.getD c.toNat 0 < d then 1 else 0 := by rw [← HE.out]; unfold backE; rw [if_pos h1]
    by_cases h2 : d < 1
    · have HF := Lib.hid (show E = 1 by rw [hE, if_pos (Or.inl h2)])
      have HG := Lib.hid (HNO.out (by rw [HF.out]; decide))
      clear h1 hE
      go_enter Try.func21, Try.ntmps21
      go_wp2_with fail
      refine HHA.out.mono ?_
      rintro e w1 ⟨rfl, hb1⟩
      have HB1 := Lib.hid hb1
      clear hb1
      go_wp2
      go_ret2
      exact TwoI.none HB1.out HG.out (by rw [HF.out]; rfl)
    by_cases h3 : 10000 < d
    · have hk0 : c.toNat < m := by have := h1.2.1; have := h1.2.2; have := h1.1.2.1; have := HL.out; have := HS.out; omega
      have hbd0 := h1.1.2.2.1 c.toNat (by rw [HS.out]; exact hk0)
      have HF := Lib.hid (show E = 1 by rw [hE, if_pos (Or.inr (by omega))])
      have HG := Lib.hid (HNO.out (by rw [HF.out]; decide))
      clear h1 hE hbd0 hk0
      go_enter Try.func21, Try.ntmps21
      go_wp2_with fail
      refine HHA.out.mono ?_
      rintro e w1 ⟨rfl, hb1⟩
      have HB1 := Lib.hid hb1
      clear hb1
      go_wp2
      go_ret2
      exact TwoI.none HB1.out HG.out (by rw [HF.out]; rfl)
    · obtain ⟨k, rfl⟩ : ∃ k : Nat, c = (k : Int) := ⟨c.toNat, by have := h1.2.1; omega⟩
      have hk : k < m := by have := h1.2.2; have := h1.1.2.1; have := HL.out; have := HS.out; omega
      have hm8 : m ≤ 8 := by have := h1.1.1.2.1; have := h1.1.2.1; have := HL.out; have := HS.out; omega
      have hbd := h1.1.2.2.1 k (by rw [HS.out]; exact hk)
      rw [Int.toNat_natCast] at hE
      obtain ⟨b, off, rfl, hcell⟩ := HB.out.2.2 (by omega)
      have HCL := Lib.hid (fun (W : World) (hW : Below w.heap.size w W) => (hW.cell (p := ⟨b, off + k, none⟩) (lt_of_cell (hcell k hk))).trans (hcell k hk))
      clear hcell
      have k0 : (0 : Int) ≤ (k : Int) := by omega
      have k1 : (k : Int) < (m : Int) := by omega
      by_cases h4 : S.getD k 0 < d
      · have HF := Lib.hid (show E = 1 by rw [hE, if_pos (Or.inr h4)])
        have HG := Lib.hid (HNO.out (by rw [HF.out]; decide))
        clear h1 hE
        generalize S.getD k 0 = x at *
        go_enter Try.func21, Try.ntmps21
        go_wp2_with fail
        refine HHA.out.mono ?_
        rintro e w1 ⟨rfl, hb1⟩
        have HB1 := Lib.hid hb1
        have c1 := HCL.out _ hb1
        clear hb1
        go_wp2
        go_ret2
        exact TwoI.none HB1.out HG.out (by rw [HF.out]; rfl)
      · have HF := Lib.hid (show E = 0 by rw [hE, if_neg (by omega)])
        have HG := Lib.hid (show K = addA S k (-d) by rw [← HK.out, (back_ok (by rw [HE.out]; exact HF.out)).2.2.2, Int.toNat_natCast])
        have HLEN := Lib.hid (addA_len S k (-d))
        have HAD := Lib.hid (show addA S k (-d) = S.set k (S.getD k 0 - d) from rfl)
        have HSK := Lib.hid (show k < S.length by rw [HS.out]; exact hk)
        have hyd : -9223372036854775808 ≤ S.getD k 0 - d ∧ S.getD k 0 - d ≤ 9223372036854775807 := by omega
        clear h1 hE hbd hd
        generalize hy : S.getD k 0 = y at *
        have HY := Lib.hid hy
        clear hy
        go_enter Try.func21, Try.ntmps21
        go_wp2_with fail
        refine HHA.out.mono ?_
        rintro e w1 ⟨rfl, hb1⟩
        have HB1 := Lib.hid hb1
        have c1 := HCL.out _ hb1
        clear hb1
        have HO := Lib.hid (ownI_made w1)
        have HRB := Lib.hid ((HB.out.below HB1.out).below HO.out.1)
        go_wp2_with (at_builtin; refine wpList_append_ints rfl _ _ rfl w1 _ [] rfl HO.out (some ⟨b, off, none⟩) m cap2 S rfl (fun h => by cases h) HRB.out (by simp; omega) ?_; intro v1 w2 hO1 _; rw [List.nil_append] at hO1; obtain ⟨g, cp, rfl⟩ := Ne.OwnI.some hO1 (by have := HSK.out; omega); obtain ⟨q1, q2, q3⟩ := Ne.OwnI.put hO1 HSK.out (y - d); rw [HS.out] at q3 ⊢; rw [HY.out] at q1; have HO2 := Lib.hid q3; clear q3 hO1)
        have HB2 := Lib.hid (HB1.out.trans (HO2.out.1.mono HB1.out.size))
        obtain ⟨A2, k2, hv2, hr2, _⟩ := HO2.out.form (by simp; have := HS.out; omega)
        cases hv2
        have HR2 := Lib.hid hr2
        clear hr2 q1 q2
        go_ret2
        exact ⟨_, cp, by rw [HF.out, HG.out, HLEN.out, HS.out]; rfl, by rw [HG.out, HLEN.out, HAD.out]; rw [List.length_set] at HR2; exact HR2.out, HB2.out⟩
  · rw [lftV_neg h1, lftE_neg h1] at HHA
    unfold Tup at HHA
    have HF := Lib.hid (show E = 1 by rw [← HE.out]; unfold backE; rw [if_neg h1])
    have HG := Lib.hid (HNO.out (by rw [HF.out]; decide))
    clear h1
    go_enter Try.func21, Try.ntmps21
    go_wp2_with fail
    refine HHA.out.mono ?_
    rintro e w1 ⟨rfl, hb1⟩
    have HB1 := Lib.hid hb1
    clear hb1
    go_wp2
    go_ret2
    exact TwoI.none HB1.out HG.out (by rw [HF.out]; rfl)
end Go.Proofs.Ytofbioefckdmbaa.Ne
