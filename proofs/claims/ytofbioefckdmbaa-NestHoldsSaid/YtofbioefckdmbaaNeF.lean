/-
  Layer 14, the program's own: Sell, Back. Conditions: the limits and the sales can be read.
-/
import Derived.Test.YtofbioefckdmbaaNeE
namespace Go.Proofs.Ytofbioefckdmbaa.Ne
open Go.RowKit Go.Proofs.Ytofbioefckdmbaa.Qu Go.Proofs.Ytofbioefckdmbaa.Fld
set_option linter.unusedVariables false

def TwoI (w : World) (l : List Int) (E : Int) (e : Ending) (w' : World) : Prop := ∃ (B : Option Addr) (cap : Nat), e = .returned (.tuple #[.slice B l.length cap, .int .i64 E]) ∧ RdI w' B l.length l ∧ Below w.heap.size w w'
theorem TwoI.none {w w' : World} {E : Int} {l : List Int} {e : Ending} (h : Below w.heap.size w w') (hl : l = []) (he : e = .returned (.tuple #[.slice Option.none 0 0, .int .i64 E])) : TwoI w l E e w' := by
  subst hl
  exact ⟨Option.none, 0, he, RdI.nil _ _, h⟩
theorem sellL_no {L S : List Int} {c m : Int} (h : sellE L S c m ≠ 0) : sellL L S c m = [] := by unfold sellL; rw [if_neg h]
theorem backL_no {L S : List Int} {c m : Int} (h : backE L S c m ≠ 0) : backL L S c m = [] := by unfold backL; rw [if_neg h]
set_option maxRecDepth 100000 in
set_option maxHeartbeats 1600000 in
theorem sell_any (A : Option Addr) (n cap : Nat) (L : List Int) (B : Option Addr) (m cap2 : Nat) (S : List Int) (c d : Int) (w : World) (ha : RdI w A n L) (hb : RdI w B m S) :
    Calls Try.prog 18 #[.slice A n cap, .slice B m cap2, .int .i64 c, .int .i64 d] w (TwoI w (sellL L S c d) (sellE L S c d)) := by
  have HLF := Lib.hid (left_any A n cap L B m cap2 S c w ha hb)
  obtain ⟨E, hE⟩ : ∃ E, sellE L S c d = E := ⟨_, rfl⟩
  obtain ⟨K, hK⟩ : ∃ K, sellL L S c d = K := ⟨_, rfl⟩
  have HE := Lib.hid hE
  have HK := Lib.hid hK
  rw [hE, hK]
  have HNO := Lib.hid (show E ≠ 0 → K = [] from fun h => by rw [← HK.out]; exact sellL_no (by rw [HE.out]; exact h))
  clear hE hK
  have HB := Lib.hid hb
  have HL := Lib.hid ha.1
  have HS := Lib.hid hb.1
  clear ha hb
  by_cases h1 : hasP L S c
  · rw [lftV_pos h1, lftE_pos h1] at HLF
    have hE : E = if d < 1 ∨ 10000 < d then 1 else if lft L S c.toNat < d then 3 else 0 := by rw [← HE.out]; unfold sellE; rw [if_pos h1]
    by_cases h2 : d < 1
    · have HF := Lib.hid (show E = 1 by rw [hE, if_pos (Or.inl h2)])
      have HG := Lib.hid (HNO.out (by rw [HF.out]; decide))
      clear h1 hE
      generalize lft L S c.toNat = x at *
      unfold Tup at HLF
      go_enter Try.func18, Try.ntmps18
      go_wp2_with fail
      refine HLF.out.mono ?_
      rintro e w1 ⟨rfl, hb1⟩
      have HB1 := Lib.hid hb1
      clear hb1
      go_wp2
      go_ret2
      exact TwoI.none HB1.out HG.out (by rw [HF.out]; rfl)
    by_cases h3 : 10000 < d
    · have HF := Lib.hid (show E = 1 by rw [hE, if_pos (Or.inr h3)])
      have HG := Lib.hid (HNO.out (by rw [HF.out]; decide))
      clear h1 hE
      generalize lft L S c.toNat = x at *
      unfold Tup at HLF
      go_enter Try.func18, Try.ntmps18
      go_wp2_with fail
      refine HLF.out.mono ?_
      rintro e w1 ⟨rfl, hb1⟩
      have HB1 := Lib.hid hb1
      clear hb1
      go_wp2
      go_ret2
      exact TwoI.none HB1.out HG.out (by rw [HF.out]; rfl)
    rw [if_neg (by omega)] at hE
    by_cases h4 : lft L S c.toNat < d
    · have HF := Lib.hid (show E = 3 by rw [hE, if_pos h4])
      have HG := Lib.hid (HNO.out (by rw [HF.out]; decide))
      clear h1 hE
      generalize lft L S c.toNat = x at *
      unfold Tup at HLF
      go_enter Try.func18, Try.ntmps18
      go_wp2_with fail
      refine HLF.out.mono ?_
      rintro e w1 ⟨rfl, hb1⟩
      have HB1 := Lib.hid hb1
      clear hb1
      go_wp2
      go_ret2
      exact TwoI.none HB1.out HG.out (by rw [HF.out]; rfl)
    · have HF := Lib.hid (show E = 0 by rw [hE, if_neg h4])
      obtain ⟨k, rfl⟩ : ∃ k : Nat, c = (k : Int) := ⟨c.toNat, by have := h1.2.1; omega⟩
      have hk : k < m := by have := h1.2.2; have := h1.1.2.1; have := HL.out; have := HS.out; omega
      have hm8 : m ≤ 8 := by have := h1.1.1.2.1; have := h1.1.2.1; have := HL.out; have := HS.out; omega
      have hbd := h1.1.2.2.1 k (by rw [HS.out]; exact hk)
      have HG := Lib.hid (show K = addA S k d by rw [← HK.out, (sell_ok (by rw [HE.out]; exact HF.out)).2.2.2.2, Int.toNat_natCast])
      have HCH := Lib.hid (fun (W : World) (hW : Below w.heap.size w W) => changed_any B m cap2 S W (HB.out.below hW) hm8 k hk d (by omega))
      have HLEN := Lib.hid (addA_len S k d)
      clear h1 hE hbd
      rw [Int.toNat_natCast] at HLF h4
      generalize lft L S k = x at *
      generalize addA S k d = Z at *
      unfold Tup at HLF
      go_enter Try.func18, Try.ntmps18
      go_wp2_with fail
      refine HLF.out.mono ?_
      rintro e w1 ⟨rfl, hb1⟩
      have HB1 := Lib.hid hb1
      clear hb1
      go_wp2_with fail
      refine (HCH.out _ HB1.out).mono ?_
      rintro e w2 ⟨v, rfl, ho⟩
      have HB2 := Lib.hid (HB1.out.trans (ho.1.mono HB1.out.size))
      obtain ⟨A2, k2, rfl, hr2, _⟩ := ho.form (by rw [HLEN.out, HS.out]; omega)
      have HR2 := Lib.hid hr2
      clear hr2 ho
      go_wp2
      go_ret2
      exact ⟨A2, k2, by rw [HF.out, HG.out]; rfl, by rw [HG.out]; exact HR2.out, HB2.out⟩
  · rw [lftV_neg h1, lftE_neg h1] at HLF
    have HF := Lib.hid (show E = 1 by rw [← HE.out]; unfold sellE; rw [if_neg h1])
    have HG := Lib.hid (HNO.out (by rw [HF.out]; decide))
    clear h1
    unfold Tup at HLF
    go_enter Try.func18, Try.ntmps18
    go_wp2_with fail
    refine HLF.out.mono ?_
    rintro e w1 ⟨rfl, hb1⟩
    have HB1 := Lib.hid hb1
    clear hb1
    go_wp2
    go_ret2
    exact TwoI.none HB1.out HG.out (by rw [HF.out]; rfl)
set_option maxRecDepth 100000 in
set_option maxHeartbeats 1600000 in
theorem back_any (A : Option Addr) (n cap : Nat) (L : List Int) (B : Option Addr) (m cap2 : Nat) (S : List Int) (c d : Int) (w : World) (ha : RdI w A n L) (hb : RdI w B m S) (hd : -9223372036854775808 ≤ d ∧ d ≤ 9223372036854775807) :
    Calls Try.prog 20 #[.slice A n cap, .slice B m cap2, .int .i64 c, .int .i64 d] w (TwoI w (backL L S c d) (backE L S c d)) := by
  have HHA := Lib.hid (has_any A n cap L B m cap2 S c w ha hb)
  obtain ⟨E, hE⟩ : ∃ E, backE L S c d = E := ⟨_, rfl⟩
  obtain ⟨K, hK⟩ : ∃ K, backL L S c d = K := ⟨_, rfl⟩
  have HE := Lib.hid hE
  have HK := Lib.hid hK
  rw [hE, hK]
  have HNO := Lib.hid (show E ≠ 0 → K = [] from fun h => by rw [← HK.out]; exact backL_no (by rw [HE.out]; exact h))
  clear hE hK
  have HB := Lib.hid hb
  have HL := Lib.hid ha.1
  have HS := Lib.hid hb.1
  clear ha hb
  by_cases h1 : hasP L S c
  · have HD1 := Lib.hid (show hasB L S c = true from dec_t h1)
    rw [HD1.out] at HHA
    have hE : E = if d < 1 ∨ S.getD c.toNat 0 < d then 1 else 0 := by rw [← HE.out]; unfold backE; rw [if_pos h1]
    by_cases h2 : d < 1
    · have HF := Lib.hid (show E = 1 by rw [hE, if_pos (Or.inl h2)])
      have HG := Lib.hid (HNO.out (by rw [HF.out]; decide))
      clear h1 hE
      go_enter Try.func20, Try.ntmps20
      go_wp2_with fail
      refine HHA.out.mono ?_
      rintro e w1 ⟨rfl, hb1⟩
      have HB1 := Lib.hid hb1
      clear hb1
      go_wp2
      go_ret2
      exact TwoI.none HB1.out HG.out (by rw [HF.out]; rfl)
    · obtain ⟨k, rfl⟩ : ∃ k : Nat, c = (k : Int) := ⟨c.toNat, by have := h1.2.1; omega⟩
      have hk : k < m := by have := h1.2.2; have := h1.1.2.1; have := HL.out; have := HS.out; omega
      have hm8 : m ≤ 8 := by have := h1.1.1.2.1; have := h1.1.2.1; have := HL.out; have := HS.out; omega
      have hbd := h1.1.2.2.1 k (by rw [HS.out]; exact hk)
      rw [Int.toNat_natCast] at hE
      obtain ⟨b, off, rfl, hcell⟩ := HB.out.2.2 (by omega)
      have HCL := Lib.hid (fun (W : World) (hW : Below w.heap.size w W) => (hW.cell (p := ⟨b, off + k, none⟩) (lt_of_cell (hcell k hk))).trans (hcell k hk))
      clear hcell
      have k0 : (0 : Int) ≤ (k : Int) := by omega
      have k1 : (k : Int) < (m : Int) := by omega
      by_cases h4 : S.getD k 0 < d
      · have HF := Lib.hid (show E = 1 by rw [hE, if_pos (Or.inr h4)])
        have HG := Lib.hid (HNO.out (by rw [HF.out]; decide))
        clear h1 hE
        generalize S.getD k 0 = x at *
        go_enter Try.func20, Try.ntmps20
        go_wp2_with fail
        refine HHA.out.mono ?_
        rintro e w1 ⟨rfl, hb1⟩
        have HB1 := Lib.hid hb1
        have c1 := HCL.out _ hb1
        clear hb1
        go_wp2
        go_ret2
        exact TwoI.none HB1.out HG.out (by rw [HF.out]; rfl)
      · have HF := Lib.hid (show E = 0 by rw [hE, if_neg (by omega)])
        have HG := Lib.hid (show K = addA S k (-d) by rw [← HK.out, (back_ok (by rw [HE.out]; exact HF.out)).2.2.2, Int.toNat_natCast])
        have HCH := Lib.hid (fun (W : World) (hW : Below w.heap.size w W) => changed_any (some ⟨b, off, none⟩) m cap2 S W (HB.out.below hW) hm8 k hk (-d) (by omega))
        have HLEN := Lib.hid (addA_len S k (-d))
        clear h1 hE
        generalize S.getD k 0 = x at *
        generalize addA S k (-d) = Z at *
        clear hd
        have hd : -9223372036854775808 ≤ -d ∧ -d ≤ 9223372036854775807 := by omega
        go_enter Try.func20, Try.ntmps20
        go_wp2_with fail
        refine HHA.out.mono ?_
        rintro e w1 ⟨rfl, hb1⟩
        have HB1 := Lib.hid hb1
        have c1 := HCL.out _ hb1
        clear hb1
        go_wp2_with fail
        refine (HCH.out _ HB1.out).mono ?_
        rintro e w2 ⟨v, rfl, ho⟩
        have HB2 := Lib.hid (HB1.out.trans (ho.1.mono HB1.out.size))
        obtain ⟨A2, k2, rfl, hr2, _⟩ := ho.form (by rw [HLEN.out, HS.out]; omega)
        have HR2 := Lib.hid hr2
        clear hr2 ho c1
        go_wp2
        go_ret2
        exact ⟨A2, k2, by rw [HF.out, HG.out]; rfl, by rw [HG.out]; exact HR2.out, HB2.out⟩
  · have HD1 := Lib.hid (show hasB L S c = false from dec_f h1)
    rw [HD1.out] at HHA
    have HF := Lib.hid (show E = 1 by rw [← HE.out]; unfold backE; rw [if_neg h1])
    have HG := Lib.hid (HNO.out (by rw [HF.out]; decide))
    clear h1
    go_enter Try.func20, Try.ntmps20
    go_wp2_with fail
    refine HHA.out.mono ?_
    rintro e w1 ⟨rfl, hb1⟩
    have HB1 := Lib.hid hb1
    clear hb1
    go_wp2
    go_ret2
    exact TwoI.none HB1.out HG.out (by rw [HF.out]; rfl)
end Go.Proofs.Ytofbioefckdmbaa.Ne
