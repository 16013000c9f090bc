/-
  Layer 14: the document's SameInts; every law's first question: three classes. Conditions: the lists can be read.
-/
import Derived.Test.YtofbioefckdmbaaNeI
namespace Go.Proofs.Ytofbioefckdmbaa.Ne
open Go.RowKit Go.Proofs.Ytofbioefckdmbaa.Qu Go.Proofs.Ytofbioefckdmbaa.Fld
set_option linter.unusedVariables false

def eqI (a b : List Int) : Bool := decide (a = b)
theorem eqI_len {a b : List Int} (h : a.length ≠ b.length) : eqI a b = false := by
  unfold eqI
  simp
  rintro rfl
  exact h rfl
theorem eqI_at {a b : List Int} (k : Nat) (h : a.getD k 0 ≠ b.getD k 0) : eqI a b = false := by
  unfold eqI
  simp
  rintro rfl
  exact h rfl
theorem eqI_all {a b : List Int} (hl : a.length = b.length) (h : ∀ k, k < a.length → a.getD k 0 = b.getD k 0) : eqI a b = true := by
  unfold eqI
  simp
  apply List.ext_getElem hl
  intro i h1 h2
  have := h i h1
  rwa [List.getD_eq_getElem?_getD, List.getD_eq_getElem?_getD, List.getElem?_eq_getElem h1, List.getElem?_eq_getElem h2] at this
def SiR (w : World) (n : Nat) (la lb : List Int) (i : Value) (wr : World) : Prop := ∃ k d : Nat, k ≤ n ∧ i = .int .i64 (k : Int) ∧ wr = w.drewN d ∧ ∀ j, j < k → la.getD j 0 = lb.getD j 0
set_option maxRecDepth 100000 in
set_option maxHeartbeats 1600000 in
theorem sameInts_any (A : Option Addr) (n c : Nat) (la : List Int) (B : Option Addr) (m d : Nat) (lb : List Int) (w : World) (ha : RdI w A n la) (hb : RdI w B m lb) :
    Calls Try.prog 13 #[.slice A n c, .slice B m d] w fun e w' => e = .returned (.bool (eqI la lb)) ∧ Below w.heap.size w w' := by
  have HA := Lib.hid ha
  have HB := Lib.hid hb
  have HLA := Lib.hid ha.1
  have HLB := Lib.hid hb.1
  have hm1 := ha.2.1
  have hm2 := hb.2.1
  unfold maxLen at hm1 hm2
  clear ha hb
  obtain ⟨R, hR⟩ : ∃ R, eqI la lb = R := ⟨_, rfl⟩
  have HR := Lib.hid hR
  rw [hR]
  clear hR
  by_cases hnm : n = m
  · subst hnm
    have q0 : ((n : Int) != (n : Int)) = false := by simp
    go_enter Try.func13, Try.ntmps13
    go_wp2_with fail
    go_loopw [5] (fun i wr => SiR w n la lb i wr) (fun i _ => n - (intOf i).toNat)
    case atStart => exact ⟨0, 0, by omega, rfl, rfl, fun j h => by omega⟩
    case round =>
      obtain ⟨k, q, hk, rfl, rfl, hall⟩ := hrel
      have HALL := Lib.hid hall
      clear hall
      by_cases hlt : k < n
      · obtain ⟨b1, o1, rfl, hc1⟩ := HA.out.2.2 (by omega)
        obtain ⟨b2, o2, rfl, hc2⟩ := HB.out.2.2 (by omega)
        have g1 : (w.drewN q).cell? ⟨b1, o1 + k, none⟩ = some (.int .i64 (la.getD k 0)) := ((below_dr w q).cell (lt_of_cell (hc1 k hlt))).trans (hc1 k hlt)
        have g2 : (w.drewN q).cell? ⟨b2, o2 + k, none⟩ = some (.int .i64 (lb.getD k 0)) := ((below_dr w q).cell (lt_of_cell (hc2 k hlt))).trans (hc2 k hlt)
        clear hc1 hc2
        generalize hw1 : w.drewN q = w1 at *
        have HW1 := Lib.hid hw1
        clear hw1
        have j1 : (k : Int) < (n : Int) := by omega
        have j0 : (0 : Int) ≤ (k : Int) := by omega
        have HNE := Lib.hid (fun h => eqI_at (a := la) (b := lb) k h)
        have HEX := Lib.hid (show la.getD k 0 = lb.getD k 0 → ∀ j, j < k + 1 → la.getD j 0 = lb.getD j 0 from fun h j hj => by
          rcases Nat.lt_or_eq_of_le (Nat.le_of_lt_succ hj) with h1 | h1
          · exact HALL.out j h1
          · subst h1; exact h)
        generalize la.getD k 0 = x at *
        generalize lb.getD k 0 = y at *
        by_cases hxy : x = y
        · have q1 : (x != y) = false := by simpa using hxy
          go_wp2_with fail
          go_quiet (fail)
          clear g1 g2
          have HW2 := Lib.hid (show w1.drewN nq = w.drewN (q + nq) by rw [← HW1.out, drew_add])
          have HEX2 := Lib.hid (HEX.out hxy)
          go_wp2
          go_roundw
          case rel => exact ⟨k + 1, q + nq, by omega, by go_num, HW2.out, HEX2.out⟩
          case measure => simp [intOf]; omega
        · have q1 : (x != y) = true := by simpa using hxy
          have HF := Lib.hid (show R = false by rw [← HR.out]; exact HNE.out hxy)
          go_wp2_with fail
          go_quiet (fail)
          clear g1 g2
          have HW2 := Lib.hid (show w1.drewN nq = w.drewN (q + nq) by rw [← HW1.out, drew_add])
          go_wp2
          go_ret
          exact ⟨by rw [HF.out]; rfl, by rw [HW2.out]; exact below_dr w _⟩
      · obtain rfl : k = n := by omega
        have HT := Lib.hid (show R = true by rw [← HR.out]; exact eqI_all (by rw [HLA.out, HLB.out]) (fun j hj => HALL.out j (by rw [HLA.out] at hj; exact hj)))
        go_wp2
        go_ret
        exact ⟨by rw [HT.out]; rfl, below_dr w _⟩
  · have HF := Lib.hid (show R = false by rw [← HR.out]; exact eqI_len (by rw [HLA.out, HLB.out]; exact hnm))
    have q0 : ((n : Int) != (m : Int)) = true := by simp; omega
    go_enter Try.func13, Try.ntmps13
    go_wp2
    go_ret
    exact ⟨by rw [HF.out]; rfl, Below.refl _ _⟩

theorem eqI_same (l : List Int) : eqI l l = true := by unfold eqI; exact decide_eq_true rfl
theorem rdI_three (w : World) (x y z : Int) : RdI (w.alloc (.cells #[.int .i64 x, .int .i64 y, .int .i64 z] 3)) (some ⟨w.heap.size, 0, none⟩) 3 [x, y, z] := by
  refine ⟨rfl, by unfold maxLen; omega, fun _ => ⟨_, _, rfl, fun i hi => ?_⟩⟩
  rw [World.cell?_alloc_mark, Nat.zero_add]
  rcases (show i = 0 ∨ i = 1 ∨ i = 2 from by omega) with rfl | rfl | rfl <;> rfl
theorem lft_three : lftV [10, 6, 3] [2, 1, 3] 1 = 2 ∧ lftE [10, 6, 3] [2, 1, 3] 1 = 0 := by decide +kernel
set_option maxRecDepth 100000 in
set_option maxHeartbeats 1600000 in
theorem awake_any (w : World) : Calls Try.prog 10 #[] w fun e w' => e = .returned (.bool true) ∧ Below w.heap.size w w' := by
  obtain ⟨W1, hW1⟩ : ∃ W1, w.alloc (.cells #[.int .i64 10, .int .i64 6, .int .i64 3] 3) = W1 := ⟨_, rfl⟩
  have hr1 := rdI_three w 10 6 3
  have hb1 := alloc_below w (.cells #[.int .i64 10, .int .i64 6, .int .i64 3] 3)
  rw [hW1] at hr1 hb1
  have hsz : W1.heap.size = w.heap.size + 1 := by rw [← hW1]; exact Array.size_push ..
  have hr2 := rdI_three W1 2 1 3
  have hb2 := alloc_below W1 (.cells #[.int .i64 2, .int .i64 1, .int .i64 3] 3)
  obtain ⟨W2, hW2⟩ : ∃ W2, W1.alloc (.cells #[.int .i64 2, .int .i64 1, .int .i64 3] 3) = W2 := ⟨_, rfl⟩
  rw [hW2] at hr2 hb2
  have HB2 := Lib.hid (hb1.trans (hb2.mono hb1.size))
  have HL := Lib.hid (left_any _ 3 3 _ _ 3 3 _ 1 W2 (hr1.below hb2) hr2)
  rw [lft_three.1, lft_three.2, hsz] at HL
  have HW := Lib.hid (show (w.alloc (.cells #[.int .i64 10, .int .i64 6, .int .i64 3] 3)).alloc (.cells #[.int .i64 2, .int .i64 1, .int .i64 3] 3) = W2 by rw [hW1]; exact hW2)
  unfold Tup at HL
  clear hr1 hr2 hb1 hb2 hW1 hW2 hsz
  go_enter Try.func10, Try.ntmps10
  go_wp2_with (first | rw [HW.out] | fail)
  refine HL.out.mono ?_
  rintro e w3 ⟨rfl, hb3⟩
  have HB3 := Lib.hid (HB2.out.trans (hb3.mono HB2.out.size))
  clear hb3
  go_wp2
  go_ret
  exact ⟨rfl, HB3.out⟩
end Go.Proofs.Ytofbioefckdmbaa.Ne
