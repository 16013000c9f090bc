/-
  Layer 14, the document's own: from, RightLimits, Right, Left. Conditions: the limits and the sales can be read.
-/
import Derived.Test.YtofbioefckdmbaaNeE
namespace Go.Proofs.Ytofbioefckdmbaa.Ne
open Go.RowKit Go.Proofs.Ytofbioefckdmbaa.Qu Go.Proofs.Ytofbioefckdmbaa.Fld
set_option linter.unusedVariables false

set_option maxRecDepth 100000 in
set_option maxHeartbeats 1600000 in
theorem from_any (B : Option Addr) (m cap : Nat) (S : List Int) (k : Nat) (w : World) (hb : RdI w B m S) (hm : m ≤ 8) (hS : cntP S) (hk : k ≤ m) :
    Calls Try.prog 28 #[.slice B m cap, .int .i64 (k : Int)] w fun e w' => e = .returned (.int .i64 (frm S k)) ∧ w = w' := by
  have HL := Lib.hid hb.1
  have HC := Lib.hid hb.2.2
  have HBD := Lib.hid (fun j => frm_bd hS (by rw [hb.1]; exact hm) j)
  have HAT := Lib.hid (fun j (h : j < m) => frm_at S j (by rw [hb.1]; exact h))
  have HEN := Lib.hid (show frm S m = 0 from frm_end S m (by rw [hb.1]; exact Nat.le_refl _))
  obtain ⟨V, hV⟩ : ∃ V, frm S k = V := ⟨_, rfl⟩
  have HV := Lib.hid hV
  rw [hV]
  have hvb : 0 ≤ V ∧ V ≤ 80000 := by rw [← hV]; exact HBD.out k
  clear hb hS hV
  go_enter Try.func28, Try.ntmps28
  go_wp2
  go_loop [5, 6] (fun t i => ∃ j : Nat, k ≤ j ∧ j ≤ m ∧ i = .int .i64 (j : Int) ∧ t = .int .i64 (V - frm S j)) (fun _ i => m - (intOf i).toNat)
  case atStart => exact ⟨k, Nat.le_refl _, hk, rfl, by rw [HV.out, Int.sub_self]⟩
  case round =>
    obtain ⟨j, hj0, hj, rfl, rfl⟩ := hrel
    by_cases hlt : j < m
    · obtain ⟨b, off, rfl, hcell⟩ := HC.out (by omega)
      have hc := hcell j hlt
      have hat := HAT.out j hlt
      have hb1 := HBD.out j
      have hb2 := HBD.out (j + 1)
      clear hcell
      generalize hp2 : frm S (j + 1) = p2 at *
      have HP2 := Lib.hid hp2
      clear hp2
      generalize frm S j = p1 at *
      generalize S.getD j 0 = y at *
      have HP := Lib.hid hat
      have hp3 : y = p1 - p2 := by omega
      have hy1 : -80000 ≤ y ∧ y ≤ 80000 := by omega
      have HP3 := Lib.hid hp3
      clear hat hp3
      go_wp2
      go_roundw
      case rel => exact ⟨j + 1, by omega, by omega, by go_num, by have := HP3.out; have := HP2.out; congr 1; omega⟩
      case measure => simp [intOf]; omega
    · obtain rfl : j = m := by omega
      rw [HEN.out]
      go_wp2
      go_ret
      exact ⟨by simp, rfl⟩
def LimR (w : World) (n : Nat) (l : List Int) (i : Value) (wr : World) : Prop := ∃ k d : Nat, k ≤ n ∧ i = .int .i64 (k : Int) ∧ wr = w.drewN d ∧ ∀ j, j < k → (0 ≤ l.getD j 0 ∧ l.getD j 0 ≤ 10000) ∧ (0 < j → l.getD j 0 ≤ l.getD (j - 1) 0)
set_option maxRecDepth 100000 in
set_option maxHeartbeats 3200000 in
theorem rlimits_any (A : Option Addr) (n c : Nat) (l : List Int) (w : World) (hr : RdI w A n l) :
    Calls Try.prog 31 #[.slice A n c] w fun e w' => e = .returned (.bool (decide (limP l))) ∧ Below w.heap.size w w' := by
  have HA := Lib.hid hr
  have HL := Lib.hid hr.1
  have hm' : n ≤ 9223372036854775807 := hr.2.1
  obtain ⟨R, hR⟩ : ∃ R, decide (limP l) = R := ⟨_, rfl⟩
  have HR := Lib.hid hR
  rw [hR]
  clear hR hr
  by_cases h1 : n < 1
  · have HF := Lib.hid (show R = false by rw [← HR.out]; exact dec_f (fun h => by have := h.1; have := HL.out; omega))
    go_enter Try.func31, Try.ntmps31
    go_wp2
    go_ret
    exact ⟨by rw [HF.out]; rfl, Below.refl _ _⟩
  by_cases h2 : 8 < n
  · have HF := Lib.hid (show R = false by rw [← HR.out]; exact dec_f (fun h => by have := h.2.1; have := HL.out; omega))
    go_enter Try.func31, Try.ntmps31
    go_wp2
    go_ret
    exact ⟨by rw [HF.out]; rfl, Below.refl _ _⟩
  obtain ⟨b, off, rfl, hcell⟩ := HA.out.2.2 (by omega)
  have HC := Lib.hid hcell
  have HC0 := Lib.hid (fun k (h : k < n) (h3 : ¬ (0 ≤ l.getD k 0 ∧ l.getD k 0 ≤ 10000)) => (show R = false by rw [← HR.out]; exact dec_f (fun h4 => h3 (h4.2.2.1 k (by rw [HL.out]; exact h)))))
  have HC1 := Lib.hid (fun k (h : k < n) (h0 : 0 < k) (h3 : l.getD (k - 1) 0 < l.getD k 0) => (show R = false by rw [← HR.out]; exact dec_f (fun h4 => by have := h4.2.2.2 k (by rw [HL.out]; exact h) h0; omega)))
  have HT := Lib.hid (fun (h : ∀ j, j < n → (0 ≤ l.getD j 0 ∧ l.getD j 0 ≤ 10000) ∧ (0 < j → l.getD j 0 ≤ l.getD (j - 1) 0)) => (show R = true by rw [← HR.out]; exact dec_t ⟨by have := HL.out; omega, by have := HL.out; omega, fun i hi => (h i (by rw [HL.out] at hi; exact hi)).1, fun i hi => (h i (by rw [HL.out] at hi; exact hi)).2⟩))
  clear hcell HA
  go_enter Try.func31, Try.ntmps31
  go_wp2
  go_loopw [3] (fun i wr => LimR w n l i wr) (fun i _ => n - (intOf i).toNat)
  case atStart => exact ⟨0, 0, by omega, rfl, rfl, fun j h => by omega⟩
  case round =>
    obtain ⟨k, q, hk, rfl, rfl, hall⟩ := hrel
    have HALL := Lib.hid hall
    clear hall
    by_cases hlt : k < n
    · have g1 : (w.drewN q).cell? ⟨b, off + k, none⟩ = some (.int .i64 (l.getD k 0)) := HC.out k hlt
      have HN0 := Lib.hid (HC0.out k hlt)
      have HN1 := Lib.hid (HC1.out k hlt)
      have HEX := Lib.hid (show (0 ≤ l.getD k 0 ∧ l.getD k 0 ≤ 10000) ∧ (0 < k → l.getD k 0 ≤ l.getD (k - 1) 0) → ∀ j, j < k + 1 → (0 ≤ l.getD j 0 ∧ l.getD j 0 ≤ 10000) ∧ (0 < j → l.getD j 0 ≤ l.getD (j - 1) 0) from fun h j hj => by
        rcases Nat.lt_or_eq_of_le (Nat.le_of_lt_succ hj) with h1 | h1
        · exact HALL.out j h1
        · subst h1; exact h)
      have j1 : (k : Int) < (n : Int) := by omega
      have j0 : (0 : Int) ≤ (k : Int) := by omega
      by_cases h3 : l.getD k 0 < 0
      · have HF := Lib.hid (HN0.out (by omega))
        clear HEX HN0 HN1
        generalize l.getD k 0 = y at *
        have q1 : decide (y < 0) = true := by simpa using h3
        generalize hw1 : w.drewN q = w1 at *
        have HW1 := Lib.hid hw1
        clear hw1
        go_wp2_with fail
        go_quiet (fail)
        have HW2 := Lib.hid (show w1.drewN nq = w.drewN (q + nq) by rw [← HW1.out, drew_add])
        go_wp2
        go_ret
        exact ⟨by rw [HF.out]; rfl, by rw [HW2.out]; exact below_dr w _⟩
      have q1 : decide (l.getD k 0 < 0) = false := by simpa using h3
      by_cases h4 : 10000 < l.getD k 0
      · have HF := Lib.hid (HN0.out (by omega))
        clear HEX HN0 HN1
        generalize l.getD k 0 = y at *
        have q2 : decide (10000 < y) = true := by simpa using h4
        generalize hw1 : w.drewN q = w1 at *
        have HW1 := Lib.hid hw1
        clear hw1
        go_wp2_with fail
        go_quiet (fail)
        have HW2 := Lib.hid (show w1.drewN nq = w.drewN (q + nq) by rw [← HW1.out, drew_add])
        go_wp2
        go_ret
        exact ⟨by rw [HF.out]; rfl, by rw [HW2.out]; exact below_dr w _⟩
      have q2 : decide (10000 < l.getD k 0) = false := by simpa using h4
      by_cases h5 : k = 0
      · have HEX2 := Lib.hid (HEX.out ⟨by omega, fun h => by omega⟩)
        have HK := Lib.hid h5
        have q3 : decide ((0 : Int) < (k : Int)) = false := by simp; omega
        have q4 : decide (0 < k) = false := by simp; omega
        clear HEX HN0 HN1 h5
        generalize l.getD k 0 = y at *
        generalize hw1 : w.drewN q = w1 at *
        have HW1 := Lib.hid hw1
        clear hw1
        go_wp2_with fail
        go_quiet (fail)
        have HW2 := Lib.hid (show w1.drewN nq = w.drewN (q + nq) by rw [← HW1.out, drew_add])
        clear g1
        go_wp2
        go_roundw
        case rel => exact ⟨k + 1, q + nq, by omega, by go_num, HW2.out, HEX2.out⟩
        case measure => simp [intOf]; omega
      · obtain ⟨p, hp⟩ : ∃ p, k = p + 1 := ⟨k - 1, by omega⟩
        have hp1 : k - 1 = p := by omega
        rw [hp1] at HN1 HEX
        have g2 : (w.drewN q).cell? ⟨b, off + p, none⟩ = some (.int .i64 (l.getD p 0)) := HC.out p (by omega)
        have q3 : decide ((0 : Int) < (k : Int)) = true := by simp; omega
        have q4 : decide (0 < k) = true := by simp; omega
        have e1 : IntKind.i64.wrap ((k : Int) - 1) = (p : Int) := by
          simp only [IntKind.wrap, IntKind.bits, IntKind.signed]
          simp
          omega
        have p0 : (0 : Int) ≤ (p : Int) := by omega
        have p1 : (p : Int) < (n : Int) := by omega
        have HP := Lib.hid hp
        by_cases h6 : l.getD p 0 < l.getD k 0
        · have HF := Lib.hid (HN1.out (by omega) h6)
          clear HEX HN0 HN1 hp hp1 h5
          generalize l.getD k 0 = y at *
          generalize l.getD p 0 = x at *
          have q5 : decide (x < y) = true := by simpa using h6
          generalize hw1 : w.drewN q = w1 at *
          have HW1 := Lib.hid hw1
          clear hw1
          go_wp2_with fail
          go_quiet (fail)
          have HW2 := Lib.hid (show w1.drewN nq = w.drewN (q + nq) by rw [← HW1.out, drew_add])
          go_wp2
          go_ret
          exact ⟨by rw [HF.out]; rfl, by rw [HW2.out]; exact below_dr w _⟩
        · have HEX2 := Lib.hid (HEX.out ⟨by omega, fun h => by omega⟩)
          clear HEX HN0 HN1 hp hp1 h5
          generalize l.getD k 0 = y at *
          generalize l.getD p 0 = x at *
          have q5 : decide (x < y) = false := by simpa using h6
          generalize hw1 : w.drewN q = w1 at *
          have HW1 := Lib.hid hw1
          clear hw1
          go_wp2_with fail
          go_quiet (fail)
          have HW2 := Lib.hid (show w1.drewN nq = w.drewN (q + nq) by rw [← HW1.out, drew_add])
          clear g1 g2
          go_wp2
          go_roundw
          case rel => exact ⟨k + 1, q + nq, by omega, by go_num, HW2.out, HEX2.out⟩
          case measure => simp [intOf]; omega
    · obtain rfl : k = n := by omega
      have HF := Lib.hid (HT.out HALL.out)
      go_wp2
      go_ret
      exact ⟨by rw [HF.out]; rfl, below_dr w _⟩
set_option maxRecDepth 100000 in
set_option maxHeartbeats 3200000 in
theorem rright_any (A : Option Addr) (n cap : Nat) (L : List Int) (B : Option Addr) (m cap2 : Nat) (S : List Int) (w : World) (ha : RdI w A n L) (hb : RdI w B m S) :
    Calls Try.prog 17 #[.slice A n cap, .slice B m cap2] w fun e w' => e = .returned (.bool (rightB L S)) ∧ Below w.heap.size w w' := by
  have HA := Lib.hid ha
  have HB := Lib.hid hb
  have HLI := Lib.hid (rlimits_any A n cap L w ha)
  have hm1 : n ≤ 9223372036854775807 := ha.2.1
  have hm2 : m ≤ 9223372036854775807 := hb.2.1
  obtain ⟨R, hR⟩ : ∃ R, rightB L S = R := ⟨_, rfl⟩
  have HR := Lib.hid (show decide (rightP L S) = R from hR)
  rw [hR]
  have HL := Lib.hid ha.1
  have HS := Lib.hid hb.1
  clear ha hb hR
  by_cases h1 : limP L
  · have HD1 := Lib.hid (dec_t h1)
    rw [HD1.out] at HLI
    by_cases h2 : m = n
    · have q0 : ((m : Int) != (n : Int)) = false := by simp; omega
      subst h2
      have hn8 : m ≤ 8 := by have := h1.2.1; have := HL.out; omega
      have HLP := Lib.hid h1
      have HN0 := Lib.hid (fun k (h : k < m) (h3 : ¬ (0 ≤ S.getD k 0 ∧ S.getD k 0 ≤ 10000)) => (show R = false by rw [← HR.out]; exact dec_f (fun h4 => h3 (h4.2.2.1 k (by rw [HS.out]; exact h)))))
      have HN1 := Lib.hid (fun k (h : k < m) (h3 : L.getD k 0 < frm S k) => (show R = false by rw [← HR.out]; exact dec_f (fun h4 => by have := h4.2.2.2 k (by rw [HL.out]; exact h); omega)))
      have HT := Lib.hid (fun (h3 : cntP S) (h4 : ∀ k, k < m → frm S k ≤ L.getD k 0) => (show R = true by rw [← HR.out]; exact dec_t ⟨HLP.out, by rw [HL.out, HS.out], h3, fun k hk => by have := h4 k (by rw [HL.out] at hk; exact hk); omega⟩))
      clear h1
      go_enter Try.func17, Try.ntmps17
      go_wp2_with fail
      refine HLI.out.mono ?_
      rintro e w1 ⟨rfl, hb1⟩
      have HB1 := Lib.hid hb1
      clear hb1
      go_wp2_with fail
      go_loop [6] (fun i => ∃ k : Nat, k ≤ m ∧ i = .int .i64 (k : Int) ∧ ∀ j, j < k → 0 ≤ S.getD j 0 ∧ S.getD j 0 ≤ 10000) (fun i => m - (intOf i).toNat)
      case atStart => exact ⟨0, by omega, rfl, fun j h => by omega⟩
      case round =>
        obtain ⟨k, hk, rfl, hall⟩ := hrel
        have HALL := Lib.hid hall
        clear hall
        by_cases hlt : k < m
        · obtain ⟨b, off, rfl, hcell⟩ := (HB.out.below HB1.out).2.2 (by omega)
          have hc := hcell k hlt
          have HN := Lib.hid (HN0.out k hlt)
          have HEX := Lib.hid (show (0 ≤ S.getD k 0 ∧ S.getD k 0 ≤ 10000) → ∀ j, j < k + 1 → 0 ≤ S.getD j 0 ∧ S.getD j 0 ≤ 10000 from fun h j hj => by
            rcases Nat.lt_or_eq_of_le (Nat.le_of_lt_succ hj) with h1 | h1
            · exact HALL.out j h1
            · subst h1; exact h)
          clear hcell
          generalize S.getD k 0 = y at *
          by_cases h3 : y < 0
          · have HF := Lib.hid (HN.out (by omega))
            go_wp2
            go_ret
            exact ⟨by rw [HF.out]; rfl, HB1.out⟩
          by_cases h4 : 10000 < y
          · have HF := Lib.hid (HN.out (by omega))
            go_wp2
            go_ret
            exact ⟨by rw [HF.out]; rfl, HB1.out⟩
          have HEX2 := Lib.hid (HEX.out ⟨by omega, by omega⟩)
          go_wp2
          go_roundw
          case rel => exact ⟨k + 1, by omega, by go_num, HEX2.out⟩
          case measure => simp [intOf]; omega
        · obtain rfl : k = m := by omega
          have HCS := Lib.hid (show cntP S from fun i hi => HALL.out i (by rw [HS.out] at hi; exact hi))
          have HT2 := Lib.hid (HT.out HCS.out)
          have HFR := Lib.hid (fun (j : Nat) (hj : j ≤ k) (W : World) (hW : Below w.heap.size w W) => from_any B k cap2 S j W (HB.out.below hW) hn8 HCS.out hj)
          clear HN0 HT
          go_wp2_with fail
          go_loopw [7] (fun i wr => ∃ j : Nat, j ≤ k ∧ i = .int .i64 (j : Int) ∧ (∀ t, t < j → frm S t ≤ L.getD t 0) ∧ Below w.heap.size w wr) (fun i _ => k - (intOf i).toNat)
          case atStart => exact ⟨0, by omega, rfl, fun t h => by omega, HB1.out⟩
          case round =>
            obtain ⟨j, hj, rfl, hall2, hbw⟩ := hrel
            have HALL2 := Lib.hid hall2
            have HBW := Lib.hid hbw
            clear hall2
            by_cases hlt2 : j < k
            · obtain ⟨b, off, hA, hcell⟩ := HA.out.2.2 (by omega)
              subst hA
              have hc := (hbw.cell (p := ⟨b, off + j, none⟩) (lt_of_cell (hcell j hlt2))).trans (hcell j hlt2)
              have HN := Lib.hid (HN1.out j hlt2)
              have HEX := Lib.hid (show frm S j ≤ L.getD j 0 → ∀ t, t < j + 1 → frm S t ≤ L.getD t 0 from fun h t ht => by
                rcases Nat.lt_or_eq_of_le (Nat.le_of_lt_succ ht) with h1 | h1
                · exact HALL2.out t h1
                · subst h1; exact h)
              have HFJ := Lib.hid (HFR.out j hj wr.drew hbw.drew)
              clear hcell hbw
              have j0 : (0 : Int) ≤ (j : Int) := by omega
              have j1 : (j : Int) < (k : Int) := by omega
              generalize L.getD j 0 = x at *
              generalize frm S j = f at *
              by_cases h5 : x < f
              · have HF := Lib.hid (HN.out h5)
                clear HEX HN
                go_wp2_with fail
                go_region_held3 (fun w' => w'.cell? ⟨b, off + j, none⟩ = some (.int .i64 x)) (first | exact (by assumption) | go_keep) ((go_at_call 28; refine HFJ.out.mono ?_; rintro e w5 ⟨rfl, rfl⟩))
                all_goals
                  go_wp2
                  go_ret
                  exact ⟨by rw [HF.out]; rfl, HBW.out.drew⟩
              · have HEX2 := Lib.hid (HEX.out (by omega))
                clear HEX HN
                go_wp2_with fail
                go_region_held3 (fun w' => w'.cell? ⟨b, off + j, none⟩ = some (.int .i64 x)) (first | exact (by assumption) | go_keep) ((go_at_call 28; refine HFJ.out.mono ?_; rintro e w5 ⟨rfl, rfl⟩))
                all_goals
                  go_wp2
                  go_roundw
                  case rel => exact ⟨j + 1, by omega, by go_num, HEX2.out, HBW.out.drew⟩
                  case measure => simp [intOf]; omega
            · obtain rfl : j = k := by omega
              have HF := Lib.hid (HT2.out HALL2.out)
              go_wp2
              go_ret
              exact ⟨by rw [HF.out]; rfl, HBW.out⟩
    · have HF := Lib.hid (show R = false by rw [← HR.out]; exact dec_f (fun h => h2 (by have := h.2.1; rw [HL.out, HS.out] at this; exact this)))
      have q0 : ((m : Int) != (n : Int)) = true := by simp; omega
      clear h1
      go_enter Try.func17, Try.ntmps17
      go_wp2_with fail
      refine HLI.out.mono ?_
      rintro e w1 ⟨rfl, hb1⟩
      have HB1 := Lib.hid hb1
      clear hb1
      go_wp2
      go_ret
      exact ⟨by rw [HF.out]; rfl, HB1.out⟩
  · have HD1 := Lib.hid (dec_f h1)
    rw [HD1.out] at HLI
    have HF := Lib.hid (show R = false by rw [← HR.out]; exact dec_f (fun h => h1 h.1))
    clear h1
    go_enter Try.func17, Try.ntmps17
    go_wp2_with fail
    refine HLI.out.mono ?_
    rintro e w1 ⟨rfl, hb1⟩
    have HB1 := Lib.hid hb1
    clear hb1
    go_wp2
    go_ret
    exact ⟨by rw [HF.out]; rfl, HB1.out⟩
end Go.Proofs.Ytofbioefckdmbaa.Ne
