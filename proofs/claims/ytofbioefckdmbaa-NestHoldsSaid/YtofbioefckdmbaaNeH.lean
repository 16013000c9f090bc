/-
  Layer 14, the document's own: Left, Sell, Back. Conditions: the limits and the sales can be read.
-/
import Derived.Test.YtofbioefckdmbaaNeG
import Derived.Test.YtofbioefckdmbaaNeF
namespace Go.Proofs.Ytofbioefckdmbaa.Ne
open Go.RowKit Go.Proofs.Ytofbioefckdmbaa.Qu Go.Proofs.Ytofbioefckdmbaa.Fld
set_option linter.unusedVariables false

def lst (f : Nat → Int) : Nat → Int
  | 0 => 10000
  | j + 1 => min (lst f j) (f j)
theorem lst_mn (f : Nat → Int) (h : f 0 ≤ 10000) : ∀ c, lst f (c + 1) = mn f c
  | 0 => by rw [lst, lst, mn]; omega
  | c + 1 => by rw [lst, lst_mn f h c, mn]
theorem lst_succ (f : Nat → Int) (j : Nat) : lst f (j + 1) = min (lst f j) (f j) := rfl
theorem lst_bd (f : Nat → Int) (h : ∀ i, -80000 ≤ f i ∧ f i ≤ 10000 ∨ True) : lst f 0 = 10000 := rfl
theorem wrapI {z : Int} (h : -9223372036854775808 ≤ z ∧ z ≤ 9223372036854775807) : IntKind.i64.wrap z = z := by
  simp only [IntKind.wrap, IntKind.bits, IntKind.signed]
  simp
  omega
set_option maxRecDepth 100000 in
set_option maxHeartbeats 3200000 in
theorem rleft_any (A : Option Addr) (n cap : Nat) (L : List Int) (B : Option Addr) (m cap2 : Nat) (S : List Int) (c : Int) (w : World) (ha : RdI w A n L) (hb : RdI w B m S) :
    Calls Try.prog 15 #[.slice A n cap, .slice B m cap2, .int .i64 c] w fun e w' => e = Tup (lftV L S c) (lftE L S c) ∧ Below w.heap.size w w' := by
  have HRI := Lib.hid (rright_any A n cap L B m cap2 S w ha hb)
  obtain ⟨V, hV⟩ : ∃ V, lftV L S c = V := ⟨_, rfl⟩
  obtain ⟨E, hE⟩ : ∃ E, lftE L S c = E := ⟨_, rfl⟩
  have HV := Lib.hid hV
  have HE := Lib.hid hE
  rw [hV, hE]
  clear hV hE
  have HL := Lib.hid ha.1
  have HS := Lib.hid hb.1
  have HA := Lib.hid ha
  have HB := Lib.hid hb
  clear ha hb
  by_cases h1 : rightP L S
  · have HD1 := Lib.hid (show rightB L S = true from dec_t h1)
    rw [HD1.out] at HRI
    have HRP := Lib.hid h1
    by_cases h2 : c < 0
    · have hno : ¬ hasP L S c := fun h => by have := h.2.1; omega
      have HFV := Lib.hid (show V = 0 by rw [← HV.out, lftV_neg hno])
      have HFE := Lib.hid (show E = 1 by rw [← HE.out, lftE_neg hno])
      clear h1 hno
      go_enter Try.func15, Try.ntmps15
      go_wp2_with fail
      refine HRI.out.mono ?_
      rintro e w1 ⟨rfl, hb1⟩
      have HB1 := Lib.hid hb1
      clear hb1
      go_wp2
      go_ret2
      exact ⟨by rw [HFV.out, HFE.out]; rfl, HB1.out⟩
    by_cases h3 : (n : Int) ≤ c
    · have hno : ¬ hasP L S c := fun h => by have := h.2.2; have := HL.out; omega
      have HFV := Lib.hid (show V = 0 by rw [← HV.out, lftV_neg hno])
      have HFE := Lib.hid (show E = 1 by rw [← HE.out, lftE_neg hno])
      clear h1 hno
      go_enter Try.func15, Try.ntmps15
      go_wp2_with fail
      refine HRI.out.mono ?_
      rintro e w1 ⟨rfl, hb1⟩
      have HB1 := Lib.hid hb1
      clear hb1
      go_wp2
      go_ret2
      exact ⟨by rw [HFV.out, HFE.out]; rfl, HB1.out⟩
    obtain ⟨k, rfl⟩ : ∃ k : Nat, c = (k : Int) := ⟨c.toNat, by omega⟩
    have hk : k < n := by omega
    have hyes : hasP L S (k : Int) := ⟨h1, by omega, by have := HL.out; omega⟩
    have hmn : m = n := by have := h1.2.1; have := HL.out; have := HS.out; omega
    have hn8 : n ≤ 8 := by have := h1.1.2.1; have := HL.out; omega
    have hr0 := rm_bd h1.1.2.2.1 h1.2.2.1 (by rw [HS.out]; omega) 0 (by rw [HL.out]; omega)
    have HFV := Lib.hid (show V = lst (rm L S) (k + 1) by rw [← HV.out, lftV_pos hyes, Int.toNat_natCast, lst_mn _ hr0.2]; rfl)
    have HFE := Lib.hid (show E = 0 by rw [← HE.out, lftE_pos hyes])
    have HFR := Lib.hid (fun (j : Nat) (hj : j ≤ m) (W : World) (hW : Below w.heap.size w W) => from_any B m cap2 S j W (HB.out.below hW) (by omega) h1.2.2.1 hj)
    have HRB := Lib.hid (fun j (hj : j < n) => rm_bd (L := L) (S := S) h1.1.2.2.1 h1.2.2.1 (by rw [HS.out]; omega) j (by rw [HL.out]; exact hj))
    clear h1 hyes hr0
    subst hmn
    have HRI := Lib.hid (rright_any A m cap L B m cap2 S w HA.out HB.out)
    rw [HD1.out] at HRI
    have q5 : decide (m ≤ k) = false := decide_eq_false (by omega)
    have q6 : decide ((m : Int) ≤ (k : Int)) = false := decide_eq_false (by omega)
    have q7 : decide ((k : Int) < 0) = false := decide_eq_false (by omega)
    have q8 : ¬ m ≤ k := by omega
    go_enter Try.func15, Try.ntmps15
    go_wp2_with fail
    refine HRI.out.mono ?_
    rintro e w1 ⟨rfl, hb1⟩
    have HB1 := Lib.hid hb1
    clear hb1
    go_wp2
    go_loopw [9, 10] (fun t i wr => ∃ j : Nat, j ≤ k + 1 ∧ i = .int .i64 (j : Int) ∧ t = .int .i64 (lst (rm L S) j) ∧ Below w.heap.size w wr) (fun _ i _ => k + 1 - (intOf i).toNat)
    case atStart => exact ⟨0, by omega, rfl, rfl, HB1.out⟩
    case round =>
      obtain ⟨j, hj, rfl, rfl, hbw⟩ := hrel
      have HBW := Lib.hid hbw
      by_cases hlt : j ≤ k
      · obtain ⟨b, off, hA, hcell⟩ := HA.out.2.2 (by omega)
        subst hA
        have hc := (hbw.cell (p := ⟨b, off + j, none⟩) (lt_of_cell (hcell j (by omega)))).trans (hcell j (by omega))
        have HFJ := Lib.hid (HFR.out j (by omega) wr.drew hbw.drew)
        have HSU := Lib.hid (lst_succ (rm L S) j)
        have hrb := HRB.out j (by omega)
        have hrm := rm_eq L S j
        clear hcell hbw
        have j0 : (0 : Int) ≤ (j : Int) := by omega
        have j1 : (j : Int) < (m : Int) := by omega
        have j2 : (j : Int) ≤ (k : Int) := by omega
        generalize L.getD j 0 = x at *
        generalize frm S j = f at *
        generalize rm L S j = y at *
        generalize lst (rm L S) j = p at *
        have e1 : IntKind.i64.wrap (x - f) = y := (wrapI (by omega)).trans hrm.symm
        clear hrb
        clear hrm
        by_cases h5 : y < p
        · have HM := Lib.hid (show min p y = y by omega)
          go_wp2_with fail
          go_region_held3 (fun w' => w'.cell? ⟨b, off + j, none⟩ = some (.int .i64 x)) (first | exact (by assumption) | go_keep) ((go_at_call 28; refine HFJ.out.mono ?_; rintro e w5 ⟨rfl, rfl⟩))
          all_goals
            go_wp2
            go_roundw
            case rel => exact ⟨j + 1, by omega, by go_num, by rw [HSU.out, HM.out], HBW.out.drew⟩
            case measure => simp [intOf]; omega
        · have HM := Lib.hid (show min p y = p by omega)
          go_wp2_with fail
          go_region_held3 (fun w' => w'.cell? ⟨b, off + j, none⟩ = some (.int .i64 x)) (first | exact (by assumption) | go_keep) ((go_at_call 28; refine HFJ.out.mono ?_; rintro e w5 ⟨rfl, rfl⟩))
          all_goals
            go_wp2
            go_roundw
            case rel => exact ⟨j + 1, by omega, by go_num, by rw [HSU.out, HM.out, if_neg (by omega)], HBW.out.drew⟩
            case measure => simp [intOf]; omega
      · obtain rfl : j = k + 1 := by omega
        have hle : ¬ ((k : Int) + 1 ≤ (k : Int)) := by omega
        go_wp2
        go_ret2
        exact ⟨by rw [HFV.out, HFE.out]; rfl, HBW.out⟩
  · have HD1 := Lib.hid (show rightB L S = false from dec_f h1)
    rw [HD1.out] at HRI
    have hno : ¬ hasP L S c := fun h => h1 h.1
    have HFV := Lib.hid (show V = 0 by rw [← HV.out, lftV_neg hno])
    have HFE := Lib.hid (show E = 1 by rw [← HE.out, lftE_neg hno])
    clear h1 hno
    go_enter Try.func15, Try.ntmps15
    go_wp2_with fail
    refine HRI.out.mono ?_
    rintro e w1 ⟨rfl, hb1⟩
    have HB1 := Lib.hid hb1
    clear hb1
    go_wp2
    go_ret2
    exact ⟨by rw [HFV.out, HFE.out]; rfl, HB1.out⟩
set_option maxRecDepth 100000 in
set_option maxHeartbeats 1600000 in
theorem rsell_any (A : Option Addr) (n cap : Nat) (L : List Int) (B : Option Addr) (m cap2 : Nat) (S : List Int) (c d : Int) (w : World) (ha : RdI w A n L) (hb : RdI w B m S) :
    Calls Try.prog 19 #[.slice A n cap, .slice B m cap2, .int .i64 c, .int .i64 d] w (TwoI w (sellL L S c d) (sellE L S c d)) := by
  have HLF := Lib.hid (rleft_any A n cap L B m cap2 S c w ha hb)
  obtain ⟨E, hE⟩ : ∃ E, sellE L S c d = E := ⟨_, rfl⟩
  obtain ⟨K, hK⟩ : ∃ K, sellL L S c d = K := ⟨_, rfl⟩
  have HE := Lib.hid hE
  have HK := Lib.hid hK
  rw [hE, hK]
  have HNO := Lib.hid (show E ≠ 0 → K = [] from fun h => by rw [← HK.out]; exact sellL_no (by rw [HE.out]; exact h))
  clear hE hK
  have HB := Lib.hid hb
  have HL := Lib.hid ha.1
  have HS := Lib.hid hb.1
  clear ha hb
  by_cases h1 : hasP L S c
  · rw [lftV_pos h1, lftE_pos h1] at HLF
    have hE : E = if d < 1 ∨ 10000 < d then 1 else if lft L S c.toNat < d then 3 else 0 := by rw [← HE.out]; unfold sellE; rw [if_pos h1]
    by_cases h2 : d < 1
    · have HF := Lib.hid (show E = 1 by rw [hE, if_pos (Or.inl h2)])
      have HG := Lib.hid (HNO.out (by rw [HF.out]; decide))
      clear h1 hE
      generalize lft L S c.toNat = x at *
      unfold Tup at HLF
      go_enter Try.func19, Try.ntmps19
      go_wp2_with fail
      refine HLF.out.mono ?_
      rintro e w1 ⟨rfl, hb1⟩
      have HB1 := Lib.hid hb1
      clear hb1
      go_wp2
      go_ret2
      exact TwoI.none HB1.out HG.out (by rw [HF.out]; rfl)
    by_cases h3 : 10000 < d
    · have HF := Lib.hid (show E = 1 by rw [hE, if_pos (Or.inr h3)])
      have HG := Lib.hid (HNO.out (by rw [HF.out]; decide))
      clear h1 hE
      generalize lft L S c.toNat = x at *
      unfold Tup at HLF
      go_enter Try.func19, Try.ntmps19
      go_wp2_with fail
      refine HLF.out.mono ?_
      rintro e w1 ⟨rfl, hb1⟩
      have HB1 := Lib.hid hb1
      clear hb1
      go_wp2
      go_ret2
      exact TwoI.none HB1.out HG.out (by rw [HF.out]; rfl)
    rw [if_neg (by omega)] at hE
    by_cases h4 : lft L S c.toNat < d
    · have HF := Lib.hid (show E = 3 by rw [hE, if_pos h4])
      have HG := Lib.hid (HNO.out (by rw [HF.out]; decide))
      clear h1 hE
      generalize lft L S c.toNat = x at *
      unfold Tup at HLF
      go_enter Try.func19, Try.ntmps19
      go_wp2_with fail
      refine HLF.out.mono ?_
      rintro e w1 ⟨rfl, hb1⟩
      have HB1 := Lib.hid hb1
      clear hb1
      go_wp2
      go_ret2
      exact TwoI.none HB1.out HG.out (by rw [HF.out]; rfl)
    · have HF := Lib.hid (show E = 0 by rw [hE, if_neg h4])
      obtain ⟨k, rfl⟩ : ∃ k : Nat, c = (k : Int) := ⟨c.toNat, by have := h1.2.1; omega⟩
      have hk : k < m := by have := h1.2.2; have := h1.1.2.1; have := HL.out; have := HS.out; omega
      have hm8 : m ≤ 8 := by have := h1.1.1.2.1; have := h1.1.2.1; have := HL.out; have := HS.out; omega
      have hbd := h1.1.2.2.1 k (by rw [HS.out]; exact hk)
      have HG := Lib.hid (show K = addA S k d by rw [← HK.out, (sell_ok (by rw [HE.out]; exact HF.out)).2.2.2.2, Int.toNat_natCast])
      have HLEN := Lib.hid (addA_len S k d)
      have HAD := Lib.hid (show addA S k d = S.set k (S.getD k 0 + d) from rfl)
      have HSK := Lib.hid (show k < S.length by rw [HS.out]; exact hk)
      obtain ⟨b, off, rfl, _⟩ := HB.out.2.2 (by omega)
      have hyd : -9223372036854775808 ≤ S.getD k 0 + d ∧ S.getD k 0 + d ≤ 9223372036854775807 := by omega
      have k0 : (0 : Int) ≤ (k : Int) := by omega
      have k1 : (k : Int) < (m : Int) := by omega
      clear h1 hE hbd
      rw [Int.toNat_natCast] at HLF h4
      generalize lft L S k = x at *
      unfold Tup at HLF
      go_enter Try.func19, Try.ntmps19
      go_wp2_with fail
      refine HLF.out.mono ?_
      rintro e w1 ⟨rfl, hb1⟩
      have HB1 := Lib.hid hb1
      clear hb1
      have HO := Lib.hid (ownI_made w1)
      have HRB := Lib.hid ((HB.out.below HB1.out).below HO.out.1)
      generalize hy : S.getD k 0 = y at *
      have HY := Lib.hid hy
      clear hy
      go_wp2_with (at_builtin; refine wpList_append_ints rfl _ _ rfl w1 _ [] rfl HO.out (some ⟨b, off, none⟩) m cap2 S rfl (fun h => by cases h) HRB.out (by simp; omega) ?_; intro v1 w2 hO1 _; rw [List.nil_append] at hO1; obtain ⟨g, cp, rfl⟩ := Ne.OwnI.some hO1 (by have := HSK.out; omega); obtain ⟨q1, q2, q3⟩ := Ne.OwnI.put hO1 HSK.out (y + d); rw [HS.out] at q3 ⊢; rw [HY.out] at q1; have HO2 := Lib.hid q3; clear q3 hO1)
      have HB2 := Lib.hid (HB1.out.trans (HO2.out.1.mono HB1.out.size))
      obtain ⟨A2, k2, hv2, hr2, _⟩ := HO2.out.form (by simp; have := HS.out; omega)
      cases hv2
      have HR2 := Lib.hid hr2
      clear hr2 q1 q2
      go_ret2
      exact ⟨_, cp, by rw [HF.out, HG.out, HLEN.out, HS.out]; rfl, by rw [HG.out, HLEN.out, HAD.out]; rw [List.length_set] at HR2; exact HR2.out, HB2.out⟩
  · rw [lftV_neg h1, lftE_neg h1] at HLF
    have HF := Lib.hid (show E = 1 by rw [← HE.out]; unfold sellE; rw [if_neg h1])
    have HG := Lib.hid (HNO.out (by rw [HF.out]; decide))
    clear h1
    unfold Tup at HLF
    go_enter Try.func19, Try.ntmps19
    go_wp2_with fail
    refine HLF.out.mono ?_
    rintro e w1 ⟨rfl, hb1⟩
    have HB1 := Lib.hid hb1
    clear hb1
    go_wp2
    go_ret2
    exact TwoI.none HB1.out HG.out (by rw [HF.out]; rfl)
end Go.Proofs.Ytofbioefckdmbaa.Ne
