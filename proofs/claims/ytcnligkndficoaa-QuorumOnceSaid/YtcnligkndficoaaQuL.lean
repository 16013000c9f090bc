/-
  Layer 9, the laws' first questions: awake, few. Conditions: the lists can be read.
-/
import Derived.Test.YtcnligkndficoaaQuA
import Derived.Deep.RegionHeld3
import Derived.Deep.RegionWith
namespace Go.Proofs.Ytcnligkndficoaa.Qu
open Go.RowKit Go.Proofs.Ytcnligkndficoaa.Fld
set_option linter.unusedVariables false

theorem rdI_three (w : World) (a b c : Int) : RdI (w.alloc (.cells #[.int .i64 a, .int .i64 b, .int .i64 c] 3)) (some ⟨w.heap.size, 0, none⟩) 3 [a, b, c] := by
  have hk := Blk.new w #[.int .i64 a, .int .i64 b, .int .i64 c] 3
  refine ⟨rfl, by unfold maxLen; omega, fun _ => ⟨_, 0, rfl, fun i hi => ?_⟩⟩
  rw [Nat.zero_add]
  have : i = 0 ∨ i = 1 ∨ i = 2 := by omega
  rcases this with rfl | rfl | rfl
  · exact hk.cell 0 _ rfl
  · exact hk.cell 1 _ rfl
  · exact hk.cell 2 _ rfl
set_option maxRecDepth 100000 in
theorem awake_any (w : World) : Calls Try.prog 10 #[] w fun e w' => e = .returned (.bool true) ∧ Below w.heap.size w w' := by
  have HB := Lib.hid (alloc_below w (.cells #[.int .i64 1, .int .i64 2, .int .i64 3] 3))
  have HN := Lib.hid (need_any (some ⟨w.heap.size, 0, none⟩) 3 3 [1, 2, 3] none 0 0 [] _ (rdI_three w 1 2 3) (RdI.nil _ _))
  rw [show grpOk [1, 2, 3] [] = true by decide, if_pos rfl] at HN
  unfold grpV at HN
  go_enter Try.func10, Try.ntmps10
  go_wp2_with fail
  refine HN.out.mono ?_
  rintro e w1 ⟨rfl, hb⟩
  have HB1 := Lib.hid (HB.out.trans (hb.mono HB.out.size))
  clear hb
  go_wp2
  go_ret
  exact ⟨rfl, HB1.out⟩
/-- a slice of slices of these lengths -/
def Lens (w : World) (B : Option Addr) (m : Nat) (ns : List Nat) : Prop := ns.length = m ∧ m ≤ 1000 ∧ (0 < m → ∃ b off, B = some ⟨b, off, none⟩ ∧ ∀ i, i < m → ∃ A c, w.cell? ⟨b, off + i, none⟩ = some (.slice A (ns.getD i 0) c))
theorem Lens.below {w w' : World} {B : Option Addr} {m : Nat} {ns : List Nat} (h : Lens w B m ns) (hb : Below w.heap.size w w') : Lens w' B m ns := by
  obtain ⟨h1, h2, h3⟩ := h
  refine ⟨h1, h2, fun hm => ?_⟩
  obtain ⟨b, off, rfl, hc⟩ := h3 hm
  refine ⟨b, off, rfl, fun i hi => ?_⟩
  obtain ⟨A, c, h⟩ := hc i hi
  exact ⟨A, c, (hb.cell (p := ⟨b, off + i, none⟩) (lt_of_cell h)).trans h⟩
def shortL (ns : List Nat) : Bool := ns.all fun n => decide (n ≤ 1000)
theorem short_take (ns : List Nat) (k : Nat) (h : k < ns.length) : shortL (ns.take (k + 1)) = (shortL (ns.take k) && decide (ns.getD k 0 ≤ 1000)) := by
  unfold shortL
  rw [List.take_add_one, List.getElem?_eq_getElem h, List.all_append, List.getD_eq_getElem?_getD, List.getElem?_eq_getElem h]
  simp
theorem short_cut (ns : List Nat) (k : Nat) (h : shortL (ns.take k) = false) : shortL ns = false := by
  rw [← List.take_append_drop k ns]
  unfold shortL at *
  rw [List.all_append, h]
  rfl
def fewG (vn ln : Nat) (ns : List Nat) : Bool := shortL ns && (decide (vn ≤ 1000) && decide (ln ≤ 1000))
set_option maxRecDepth 100000 in
set_option maxHeartbeats 1600000 in
theorem few_any (VA : Option Addr) (vn vc : Nat) (vs : List Int) (LA : Option Addr) (ln lc : Nat) (ls : List Int) (B : Option Addr) (m d : Nat) (ns : List Nat) (w : World) (h : Lens w B m ns) (hvn : vn ≤ 9223372036854775807) (hln : ln ≤ 9223372036854775807) :
    Calls Try.prog 11 #[grpV VA vn vc LA ln lc, .slice B m d] w fun e w' => e = .returned (.bool (fewG vn ln ns)) ∧ Below w.heap.size w w' := by
  have hb := alloc_below w (.cells #[.slice VA vn vc, .slice LA ln lc] 24)
  have HB := Lib.hid hb
  have hk := Blk.new w #[.slice VA vn vc, .slice LA ln lc] 24
  obtain ⟨h1, h2, h3⟩ := h.below hb
  have HL := Lib.hid h1
  have HC := Lib.hid h3
  have HT := Lib.hid (short_take ns)
  have HX := Lib.hid (short_cut ns)
  have HF := Lib.hid (show fewG vn ln ns = (shortL ns && (decide (vn ≤ 1000) && decide (ln ≤ 1000))) from rfl)
  rw [HF.out]
  unfold grpV
  have c0 := hk.cell 0 (.slice VA vn vc) rfl
  have c1 := hk.cell 1 (.slice LA ln lc) rfl
  clear h h1 h3 hb hk
  obtain ⟨R, hR⟩ : ∃ R, shortL ns = R := ⟨_, rfl⟩
  have HR := Lib.hid hR
  rw [hR]
  clear hR HF
  go_enter Try.func11, Try.ntmps11
  go_wp2
  go_loop [5] (fun i => ∃ k : Nat, k ≤ m ∧ i = .int .i64 k ∧ shortL (ns.take k) = true) (fun i => m - (intOf i).toNat)
  case atStart => exact ⟨0, Nat.zero_le _, rfl, rfl⟩
  case round =>
    obtain ⟨k, hk, rfl, hall⟩ := hrel
    have HA := Lib.hid hall
    clear hall
    by_cases hlt : k < m
    · obtain ⟨b, off, rfl, hcell⟩ := HC.out (by omega)
      obtain ⟨A, c, hc⟩ := hcell k hlt
      clear hcell
      have HT1 := Lib.hid (HT.out k (by rw [HL.out]; exact hlt))
      have HX1 := Lib.hid (HX.out (k + 1))
      generalize ns.getD k 0 = n at *
      by_cases hn : 1000 < n
      · have q1 : decide (1000 < (n : Int)) = true := by simp; omega
        have HF := Lib.hid (show R = false by rw [← HR.out]; exact HX1.out (by rw [HT1.out]; simp; omega))
        go_wp2
        go_ret
        exact ⟨by rw [HF.out]; rfl, HB.out⟩
      · have q1 : decide (1000 < (n : Int)) = false := by simp; omega
        have HT2 := Lib.hid (show shortL (ns.take (k + 1)) = true by rw [HT1.out, HA.out]; simp; omega)
        go_wp2
        go_roundw
        case rel => exact ⟨k + 1, by omega, by go_num, HT2.out⟩
        case measure => simp [intOf]; omega
    · obtain rfl : k = m := by omega
      have HF := Lib.hid (show R = true by rw [← HR.out, ← HA.out, ← HL.out, List.take_length])
      by_cases hv : vn ≤ 1000
      · by_cases hl : ln ≤ 1000
        · go_wp2
          go_ret
          exact ⟨by first | (rw [HF.out]; simp; done) | (rw [HF.out]; simp; omega) | (simp; done) | (simp; omega), HB.out⟩
        · go_wp2
          go_ret
          exact ⟨by first | (rw [HF.out]; simp; done) | (rw [HF.out]; simp; omega) | (simp; done) | (simp; omega), HB.out⟩
      · go_wp2
        go_ret
        exact ⟨by first | (rw [HF.out]; simp; done) | (rw [HF.out]; simp; omega) | (simp; done) | (simp; omega), HB.out⟩
end Go.Proofs.Ytcnligkndficoaa.Qu
