/-
  Layer 14, the program's own: slices.IsSortedFunc at a falling order, areLimits, slices.Min, slices.Clone, changed. Conditions: the slices can be read.
-/
import Derived.Test.YtofbioefckdmbaaNeA
import Derived.Deep.QuietTactic
import Derived.BigQuiet
import Derived.Deep.RegionHeld3
import Derived.Deep.RegionWith
namespace Go.Proofs.Ytofbioefckdmbaa.Ne
open Go.RowKit Go.Proofs.Ytofbioefckdmbaa.Qu Go.Proofs.Ytofbioefckdmbaa.Fld
set_option linter.unusedVariables false

theorem fall_not {l : List Int} {k : Nat} (hk : k + 1 < l.length) (h : l.getD k 0 < l.getD (k + 1) 0) : decide (fallP l) = false := dec_f (fun hc => by have := hc (k + 1) hk (by omega); rw [Nat.add_sub_cancel] at this; omega)
theorem cmp_lt {a b : Int} (h : a < b) : cmpI a b = -1 := by unfold cmpI; rw [if_pos h]
theorem cmp_ge {a b : Int} (h : ¬ a < b) : cmpI a b = 0 ∨ cmpI a b = 1 := by unfold cmpI; rw [if_neg h]; split <;> simp
set_option maxRecDepth 100000 in
set_option maxHeartbeats 1600000 in
theorem sorted_any (A : Option Addr) (n c : Nat) (l : List Int) (w : World) (hr : RdI w A n l) :
    Calls Try.prog 36 #[.slice A n c, .func (.func 37) #[] #[]] w fun e w' => e = .returned (.bool (decide (fallP l))) ∧ Below w.heap.size w w' := by
  obtain ⟨hl, hm, hc⟩ := hr
  have HL := Lib.hid hl
  have HC := Lib.hid hc
  have HN := Lib.hid (fun k (h : k + 1 < n) => fall_not (l := l) (k := k) (by rw [hl]; exact h))
  have HT := Lib.hid (fun (h : ∀ i, i < n → 0 < i → l.getD i 0 ≤ l.getD (i - 1) 0) => dec_t (p := fallP l) (fun i hi => h i (by rw [hl] at hi; exact hi)))
  have hm' : n ≤ 9223372036854775807 := hm
  obtain ⟨R, hR⟩ : ∃ R, decide (fallP l) = R := ⟨_, rfl⟩
  rw [hR] at HN HT ⊢
  clear hl hc hm hR
  have hmn : -9223372036854775808 ≤ (n : Int) - 1 ∧ (n : Int) - 1 ≤ 9223372036854775807 := by omega
  go_enter Try.func36, Try.ntmps36
  go_wp2
  go_loopw [5] (fun i wr => ∃ k : Nat, k ≤ n ∧ i = .int .i64 ((k : Int) - 1) ∧ (∀ j, k ≤ j → j < n → 0 < j → l.getD j 0 ≤ l.getD (j - 1) 0) ∧ Below w.heap.size w wr) (fun i _ => (intOf i + 1).toNat)
  case atStart => exact ⟨n, Nat.le_refl _, by go_num, fun j h1 h2 => by omega, Below.refl _ _⟩
  case round =>
    obtain ⟨k, hk, rfl, hall, hb⟩ := hrel
    have HA := Lib.hid hall
    have HB := Lib.hid hb
    clear hall
    by_cases hlt : 2 ≤ k
    · obtain ⟨m, rfl⟩ : ∃ m, k = m + 1 := ⟨k - 1, by omega⟩
      obtain ⟨j, hj⟩ : ∃ j, m = j + 1 := ⟨m - 1, by omega⟩
      obtain ⟨b, off, rfl, hcell⟩ := HC.out (by omega)
      have hc1 := (hb.cell (p := ⟨b, off + m, none⟩) (lt_of_cell (hcell m (by omega)))).trans (hcell m (by omega))
      have hc2 := (hb.cell (p := ⟨b, off + j, none⟩) (lt_of_cell (hcell j (by omega)))).trans (hcell j (by omega))
      have HN1 := Lib.hid (HN.out j (by omega))
      have HS1 := Lib.hid (show ¬ (l.getD j 0 < l.getD m 0) → ∀ i, m ≤ i → i < n → 0 < i → l.getD i 0 ≤ l.getD (i - 1) 0 from fun h i h1 h2 h3 => by
        rcases Nat.lt_or_eq_of_le h1 with h4 | h4
        · exact HA.out i (by omega) h2 h3
        · subst h4; rw [hj, Nat.add_sub_cancel, ← hj]; omega)
      rw [← hj] at HN1
      clear hcell hb
      rw [show (((m + 1 : Nat) : Int) - 1) = (m : Int) by omega]
      have j1 : (m : Int) < (n : Int) := by omega
      have j0 : (0 : Int) < (m : Int) := by omega
      have j2 : IntKind.i64.wrap ((m : Int) - 1) = (j : Int) := by
        simp only [IntKind.wrap, IntKind.bits, IntKind.signed]
        simp
        omega
      have j3 : (j : Int) < (n : Int) := by omega
      have HJ := Lib.hid hj
      clear hj
      generalize l.getD j 0 = x at *
      generalize l.getD m 0 = y at *
      by_cases hxy : x < y
      · have HF := Lib.hid (HN1.out hxy)
        have HCM := Lib.hid (cmp_lt hxy)
        clear hxy
        go_wp2_with fail
        go_region_held3 (fun w' => w'.cell? ⟨b, off + m, none⟩ = some (.int .i64 y) ∧ w'.cell? ⟨b, off + j, none⟩ = some (.int .i64 x)) (first | exact ⟨by assumption, by assumption⟩ | go_keep) ((go_at_call 37; refine (turned_any _ _ _).mono ?_; rintro e w5 ⟨rfl, rfl⟩; rw [HCM.out]))
        all_goals
          go_wp2
          go_ret
          exact ⟨by rw [HF.out]; rfl, HB.out.drew⟩
      · have HS2 := Lib.hid (HS1.out hxy)
        obtain ⟨z, hz, hz0⟩ : ∃ z, cmpI x y = z ∧ ¬ z < 0 := ⟨_, rfl, by rcases cmp_ge hxy with h | h <;> omega⟩
        have HCM := Lib.hid hz
        clear hz
        clear hxy
        go_wp2_with fail
        go_region_held3 (fun w' => w'.cell? ⟨b, off + m, none⟩ = some (.int .i64 y) ∧ w'.cell? ⟨b, off + j, none⟩ = some (.int .i64 x)) (first | exact ⟨by assumption, by assumption⟩ | go_keep) ((go_at_call 37; refine (turned_any _ _ _).mono ?_; rintro e w5 ⟨rfl, rfl⟩; rw [HCM.out]))
        all_goals
          go_wp2
          go_roundw
          case rel => exact ⟨m, by omega, by rw [show ((m : Int) - 1) = (j : Int) by have := HJ.out; omega], HS2.out, HB.out.drew⟩
          case measure =>
            have := HJ.out
            simp [intOf]
            omega
    · have HF := Lib.hid (HT.out (fun i h1 h2 => HA.out i (by omega) h1 h2))
      have hle : ¬ (0 < (k : Int) - 1) := by omega
      go_wp2
      go_ret
      exact ⟨by rw [HF.out]; rfl, HB.out⟩
set_option maxRecDepth 100000 in
set_option maxHeartbeats 1600000 in
theorem limits_any (A : Option Addr) (n c : Nat) (l : List Int) (w : World) (hr : RdI w A n l) :
    Calls Try.prog 29 #[.slice A n c] w fun e w' => e = .returned (.bool (decide (limP l))) ∧ Below w.heap.size w w' := by
  have HR := Lib.hid hr
  have hl := hr.1
  have hm := hr.2.1
  have hm' : n ≤ 9223372036854775807 := hm
  have HCN := Lib.hid (counts_any A n c l w hr)
  have HSO := Lib.hid (sorted_any A n c l w hr)
  obtain ⟨R, hR⟩ : ∃ R, decide (limP l) = R := ⟨_, rfl⟩
  have HRR := Lib.hid hR
  rw [hR]
  have HL := Lib.hid hl
  clear hR hr hm hl
  by_cases h1 : n < 1
  · have HF := Lib.hid (show R = false by rw [← HRR.out]; exact dec_f (fun h => by have := h.1; have := HL.out; omega))
    go_enter Try.func29, Try.ntmps29
    go_wp2
    go_ret
    exact ⟨by rw [HF.out]; rfl, Below.refl _ _⟩
  by_cases h2 : 8 < n
  · have HF := Lib.hid (show R = false by rw [← HRR.out]; exact dec_f (fun h => by have := h.2.1; have := HL.out; omega))
    go_enter Try.func29, Try.ntmps29
    go_wp2
    go_ret
    exact ⟨by rw [HF.out]; rfl, Below.refl _ _⟩
  by_cases h3 : cntP l
  · have HF := Lib.hid (show R = decide (fallP l) by
      rw [← HRR.out]
      by_cases h4 : fallP l
      · rw [dec_t h4]; exact dec_t ⟨by have := HL.out; omega, by have := HL.out; omega, h3, h4⟩
      · rw [dec_f h4]; exact dec_f (fun h => h4 h.2.2.2))
    have HD := Lib.hid (dec_t h3)
    clear h3
    rw [HD.out] at HCN
    generalize decide (fallP l) = F at *
    go_enter Try.func29, Try.ntmps29
    go_wp2_with fail
    refine HCN.out.mono ?_
    rintro e w1 ⟨rfl, rfl⟩
    go_wp2_with fail
    refine HSO.out.mono ?_
    rintro e w1 ⟨rfl, hb1⟩
    have HB1 := Lib.hid hb1
    clear hb1
    go_wp2
    go_ret
    exact ⟨by rw [HF.out]; rfl, HB1.out⟩
  · have HF := Lib.hid (show R = false by rw [← HRR.out]; exact dec_f (fun h => h3 h.2.2.1))
    have HD := Lib.hid (dec_f h3)
    clear h3
    rw [HD.out] at HCN
    go_enter Try.func29, Try.ntmps29
    go_wp2_with fail
    refine HCN.out.mono ?_
    rintro e w1 ⟨rfl, rfl⟩
    go_wp2
    go_ret
    exact ⟨by rw [HF.out]; rfl, Below.refl _ _⟩
theorem vI_set (l : List Int) (i : Nat) (x : Int) : (vI l).set i (.int .i64 x) = vI (l.set i x) := by simp [vI, List.map_set]
def atI (l : List Int) (i : Nat) : Int := l.getD i 0
theorem atI_eq (l : List Int) (i : Nat) : atI l i = l.getD i 0 := rfl
theorem mn_zero (f : Nat → Int) : mn f 0 = f 0 := rfl
theorem mn_succ (f : Nat → Int) (k : Nat) : mn f (k + 1) = min (mn f k) (f (k + 1)) := rfl
set_option maxRecDepth 100000 in
set_option maxHeartbeats 1600000 in
theorem min_any (A : Option Addr) (n c : Nat) (l : List Int) (w : World) (hr : RdI w A n l) (hn : 1 ≤ n) :
    Calls Try.prog 26 #[.slice A n c] w fun e w' => e = .returned (.int .i64 (mn (atI l) (n - 1))) ∧ w = w' := by
  obtain ⟨hl, hm, hc⟩ := hr
  obtain ⟨b, off, rfl, hcell⟩ := hc (by omega)
  have HC := Lib.hid hcell
  have hm' : n ≤ 9223372036854775807 := hm
  have h0 := hcell 0 (by omega)
  have HZ := Lib.hid (show mn (atI l) 0 = l.getD 0 0 from rfl)
  obtain ⟨V, hV⟩ : ∃ V, mn (atI l) (n - 1) = V := ⟨_, rfl⟩
  have HV := Lib.hid hV
  rw [hV]
  clear hV
  have n1 : ¬ n < 1 := by omega
  have n2 : 0 < n := by omega
  clear hcell hc hm hl
  generalize hy0 : l.getD 0 0 = y0 at *
  rw [Nat.add_zero] at h0
  clear hy0
  go_enter Try.func26, Try.ntmps26
  go_wp2
  go_loop [3, 4] (fun m i => ∃ k : Nat, k + 1 ≤ n ∧ i = .int .i64 ((k + 1 : Nat) : Int) ∧ m = .int .i64 (mn (atI l) k)) (fun _ i => n - (intOf i).toNat)
  case atStart => exact ⟨0, by omega, rfl, by rw [HZ.out]⟩
  case round =>
    obtain ⟨k, hk, rfl, rfl⟩ := hrel
    have HM := Lib.hid (mn_succ (atI l) k)
    have HAT := Lib.hid (atI_eq l (k + 1))
    by_cases hlt : k + 1 < n
    · have hc := HC.out (k + 1) hlt
      have HK := Lib.hid hk
      clear h0
      rw [HAT.out] at HM
      generalize l.getD (k + 1) 0 = y at *
      generalize mn (atI l) k = p at *
      obtain ⟨q, hq⟩ : ∃ q, q = k + 1 := ⟨_, rfl⟩
      rw [← hq] at hc hlt HM ⊢
      have HQ := Lib.hid hq
      clear hq hk
      have q1 : (q : Int) < (n : Int) := by omega
      have q0 : (0 : Int) ≤ (q : Int) := by omega
      go_wp2
      go_roundw
      case rel => exact ⟨q, by omega, by go_num, by rw [HM.out]; congr 1; split <;> omega⟩
      case measure => simp [intOf]; omega
    · obtain rfl : n = k + 1 := by omega
      have HF := Lib.hid (show V = mn (atI l) k by rw [← HV.out, Nat.add_sub_cancel])
      generalize mn (atI l) k = p at *
      go_wp2
      go_ret
      exact ⟨by rw [HF.out]; rfl, rfl⟩
theorem ownI_made (w : World) : OwnI w (w.alloc (.cells #[] 3)) (.slice (some ⟨w.heap.size, 0, none⟩) 0 0) [] :=
  ⟨alloc_below w _, by simp [vI], .inr ⟨w.heap.size, 0, #[], rfl, Nat.le_refl _, heap_alloc_new w _, Nat.le_refl _, by unfold maxLen; omega, rfl, rfl⟩⟩
def NewI (w : World) (l : List Int) (e : Ending) (w' : World) : Prop := ∃ v, e = .returned v ∧ OwnI w w' v l
theorem cloneI_any (A : Option Addr) (n cap : Nat) (l : List Int) (w : World) (hr : RdI w A n l) (hn : n ≤ 1000) : Calls Try.prog 39 #[.slice A n cap] w (NewI w l) := by
  have q := fun (w : World) (a : Option Addr) (l c : Nat) => run_eql_slice_nil (P := Try.prog) w 24 3 a l c Try.underlying24
  cases A with
  | none =>
    obtain ⟨rfl, rfl⟩ := hr.empty
    clear hr
    go_enter Try.func39, Try.ntmps39
    go_wp2
    go_ret
    exact ⟨_, rfl, OwnI.nil _ _ (Below.refl _ _)⟩
  | some a =>
    have HO := Lib.hid (ownI_made w)
    have HR1 := Lib.hid (hr.below HO.out.1)
    clear hr
    go_enter Try.func39, Try.ntmps39
    go_wp2_with (at_builtin; refine wpList_append_ints rfl _ _ rfl w _ [] rfl HO.out (some a) n cap l rfl (fun h => by cases h) HR1.out (by simp; omega) ?_; intro v1 w1 hO1 _; have HO2 := Lib.hid hO1; clear hO1)
    go_ret
    exact ⟨_, rfl, HO2.out⟩
/-- a number of a row of the call's own is written -/
theorem OwnI.put {w0 w : World} {g n cap : Nat} {l : List Int} (h : OwnI w0 w (.slice (some ⟨g, 0, none⟩) n cap) l) {i : Nat} (hi : i < l.length) (x : Int) :
    w.cell? ⟨g, i, none⟩ = some (.int .i64 (l.getD i 0)) ∧ w.frozen? ⟨g, i, none⟩ = false ∧ OwnI w0 (w.setCell ⟨g, i, none⟩ (.int .i64 x)) (.slice (some ⟨g, 0, none⟩) n cap) (l.set i x) := by
  obtain ⟨h0, h1, h2⟩ := h
  rcases h2 with ⟨h3, _⟩ | ⟨g', cap', cur, he, hg, hh, hnc, hcm, hcs, hcu⟩
  · cases h3
  · cases he
    have hc : w.cell? ⟨g, i, none⟩ = some (.int .i64 (l.getD i 0)) := by
      rw [cell_of_row w g i cur _ (0, 0) hh, ← vI_at l i hi, ← hcu, List.getElem?_take, if_pos (by omega), Array.getElem?_toList]
    have his : i < cur.size := by
      rcases Nat.lt_or_ge i cur.size with h4 | h4
      · exact h4
      · rw [cell_of_row w g i cur _ (0, 0) hh, Array.getElem?_eq_none h4] at hc; cases hc
    refine ⟨hc, frozen_of_row w g i cur _ hh, h0.setCell (p := ⟨g, i, none⟩) hg _, ?_⟩
    refine ⟨by simp [vI], .inr ⟨g, cap, cur.setIfInBounds i (.int .i64 x), by simp, hg, heap_setCell_same w g i _ _ _ hh, by simpa using hnc, hcm, by simpa using hcs, ?_⟩⟩
    rw [Array.toList_setIfInBounds, List.take_set, ← vI_set]
    rw [List.length_set]
    exact congrArg (fun z => z.set i (Value.int .i64 x)) hcu
end Go.Proofs.Ytofbioefckdmbaa.Ne
