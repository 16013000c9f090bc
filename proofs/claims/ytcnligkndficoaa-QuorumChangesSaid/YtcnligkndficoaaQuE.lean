/-
  Layer 9, lists with a number put in, in the document's own: with. Conditions: the lists can be read, and are short.
-/
import Derived.Test.YtcnligkndficoaaQuC
import Derived.Test.YtcnligkndficoaaShelf
import Derived.Lib.AppendZeros
import Derived.Deep.RegionHeld3
import Derived.Deep.RegionWith
namespace Go.Proofs.Ytcnligkndficoaa.Qu
open Go.RowKit Go.Proofs.Ytcnligkndficoaa.Fld
set_option linter.unusedVariables false

set_option maxRecDepth 100000 in
set_option maxHeartbeats 3200000 in
theorem refwith_any (A : Option Addr) (n cap : Nat) (l : List Int) (x : Int) (w : World) (hr : RdI w A n l) (hn : n ≤ 1000) :
    Calls Try.prog 35 #[.slice A n cap, .int .i64 x] w fun e w' => ∃ v, e = .returned v ∧ OwnI w w' v (wEnd x (wFold x l)) := by
  have HL := Lib.hid hr.1
  have HC := Lib.hid hr
  have HT := Lib.hid (wFold_take x l)
  have HLE := Lib.hid (fun k => Nat.le_trans (wFold_len x (l.take k) ([], false)) (show ([] : List Int).length + 2 * (l.take k).length ≤ 2 * l.length by simp; omega))
  clear hr
  go_enter Try.func35, Try.ntmps35
  go_wp2_with fail
  go_loopw [5, 6, 7] (fun v p i wr => ∃ k : Nat, k ≤ n ∧ i = .int .i64 k ∧ p = .bool (wFold x (l.take k)).2 ∧ OwnI w wr v (wFold x (l.take k)).1) (fun _ _ i _ => n - (intOf i).toNat)
  case atStart => exact ⟨0, Nat.zero_le _, rfl, rfl, OwnI.nil _ _ (Below.refl _ _)⟩
  case round =>
    obtain ⟨k, hk, rfl, rfl, hO⟩ := hrel
    have hle : (wFold x (l.take k)).1.length ≤ 2 * n := by rw [← HL.out]; exact HLE.out k
    obtain ⟨q, hq⟩ : ∃ q, wFold x (l.take k) = q := ⟨_, rfl⟩
    rw [hq] at hO hle
    have HQ := Lib.hid hq
    obtain ⟨ra, rb⟩ := q
    have HO := Lib.hid hO
    rw [hq]
    clear hO hq
    simp only at hle HO ⊢
    by_cases hlt : k < n
    · obtain ⟨b, off, rfl, hcell⟩ := HC.out.2.2 (by omega)
      have HGA := Lib.hid (fun W (hW : Below w.heap.size w W) => (hW.cell (lt_of_cell (hcell k hlt))).trans (hcell k hlt))
      have hc := HGA.out wr HO.out.1
      have HT1 := Lib.hid (show wFold x (l.take (k + 1)) = wStep x (ra, rb) (l.getD k 0) by rw [HT.out k (by rw [HL.out]; exact hlt), HQ.out])
      clear hcell
      generalize l.getD k 0 = y at *
      have j1 : (k : Int) < (n : Int) := by omega
      have j0 : (0 : Int) ≤ (k : Int) := by omega
      have HO1 := Lib.hid (HO.out.below (alloc_below wr (.cells #[.int .i64 y] 3)))
      have HOX := Lib.hid (HO.out.below (alloc_below wr (.cells #[.int .i64 x] 3)))
      cases rb with
      | true =>
        have HT2 := Lib.hid (show wFold x (l.take (k + 1)) = (ra ++ [y], true) by rw [HT1.out]; simp [wStep])
        go_wp2_with (at_builtin; refine wpList_append_ints rfl _ _ rfl w _ ra rfl HO1.out _ 1 1 [y] rfl (fun h => by cases h) (rdI_one wr y) (by omega) ?_; intro v3 w3 hO3 _; have HO3 := Lib.hid hO3; clear hO3)
        go_roundw
        case rel => exact ⟨k + 1, by omega, by go_num, by rw [HT2.out], by rw [HT2.out]; exact HO3.out⟩
        case measure => simp [intOf]; omega
      | false =>
        by_cases hxy : x < y
        · have HT2 := Lib.hid (show wFold x (l.take (k + 1)) = ((ra ++ [x]) ++ [y], true) by rw [HT1.out]; simp [wStep, hxy])
          go_wp2_with (first
            | (at_builtin; refine wpList_append_ints rfl _ _ rfl w _ ra rfl HOX.out _ 1 1 [x] rfl (fun h => by cases h) (rdI_one wr x) (by omega) ?_; intro v3 w3 hO3 _; have HO3 := Lib.hid (OwnI.below hO3 (alloc_below w3 (.cells #[.int .i64 y] 3))); have gc := HGA.out w3 hO3.1; clear hO3)
            | (at_builtin; refine wpList_append_ints rfl _ _ rfl w _ (ra ++ [x]) rfl HO3.out _ 1 1 [y] rfl (fun h => by cases h) (rdI_one _ y) (by simp; omega) ?_; intro v4 w4 hO4 _; have HO4 := Lib.hid hO4; clear hO4))
          go_roundw
          case rel => exact ⟨k + 1, by omega, by go_num, by rw [HT2.out], by rw [HT2.out]; exact HO4.out⟩
          case measure => simp [intOf]; omega
        · have HT2 := Lib.hid (show wFold x (l.take (k + 1)) = (ra ++ [y], false) by rw [HT1.out]; simp [wStep, hxy])
          go_wp2_with (at_builtin; refine wpList_append_ints rfl _ _ rfl w _ ra rfl HO1.out _ 1 1 [y] rfl (fun h => by cases h) (rdI_one wr y) (by omega) ?_; intro v3 w3 hO3 _; have HO3 := Lib.hid hO3; clear hO3)
          go_roundw
          case rel => exact ⟨k + 1, by omega, by go_num, by rw [HT2.out], by rw [HT2.out]; exact HO3.out⟩
          case measure => simp [intOf]; omega
    · obtain rfl : k = n := by omega
      have HF := Lib.hid (show wFold x l = (ra, rb) by rw [← HQ.out, ← HL.out, List.take_length])
      have HOX := Lib.hid (HO.out.below (alloc_below wr (.cells #[.int .i64 x] 3)))
      cases rb with
      | true =>
        go_wp2
        go_ret
        exact ⟨_, rfl, by rw [HF.out]; exact HO.out⟩
      | false =>
        go_wp2_with (at_builtin; refine wpList_append_ints rfl _ _ rfl w _ ra rfl HOX.out _ 1 1 [x] rfl (fun h => by cases h) (rdI_one wr x) (by omega) ?_; intro v3 w3 hO3 _; have HO3 := Lib.hid hO3; clear hO3)
        go_ret
        exact ⟨_, rfl, by rw [HF.out]; exact HO3.out⟩
end Go.Proofs.Ytcnligkndficoaa.Qu
