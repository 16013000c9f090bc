/-
  Layer 13: every law's first question: a cabin of two rows of six. No condition.
-/
import Derived.Test.YtnmmpiddmckghaaDoorSeG
import Derived.Test.YtnmmpiddmckghaaDoorSeB
namespace Go.Proofs.YtnmmpiddmckghaaDoor.Se
open Go.RowKit Go.Proofs.YtnmmpiddmckghaaDoor.Qu Go.Proofs.YtnmmpiddmckghaaDoor.Fld
set_option linter.unusedVariables false

theorem lay_33 : layOk 2 [3, 3] = true := by decide
theorem cnt_33 : cntS 2 [3, 3] = 12 := by decide
theorem lbl_33 : lblS 2 [3, 3] 8 = ⟨#[50, 67]⟩ ∧ lblE 2 [3, 3] 8 = 0 := by decide +kernel
theorem rdI_33 (w : World) : RdI (w.alloc (.cells #[.int .i64 3, .int .i64 3] 3)) (some ⟨w.heap.size, 0, none⟩) 2 [3, 3] := by
  refine ⟨rfl, by unfold maxLen; omega, fun _ => ⟨_, _, rfl, fun i hi => ?_⟩⟩
  rw [World.cell?_alloc_mark, Nat.zero_add]
  rcases (show i = 0 ∨ i = 1 from by omega) with rfl | rfl <;> rfl
set_option maxRecDepth 100000 in
set_option maxHeartbeats 1600000 in
theorem awake_any (w : World) : Calls Tryd.prog 10 #[] w fun e w' => e = .returned (.bool true) ∧ Below w.heap.size w w' := by
  obtain ⟨W1, hW1⟩ : ∃ W1, w.alloc (.cells #[.int .i64 3, .int .i64 3] 3) = W1 := ⟨_, rfl⟩
  have hr1 := rdI_33 w
  have hb1 := alloc_below w (.cells #[.int .i64 3, .int .i64 3] 3)
  rw [hW1] at hr1 hb1
  have hsz : W1.heap.size = w.heap.size + 1 := by rw [← hW1]; exact Array.size_push ..
  obtain ⟨W2, hW2⟩ : ∃ W2, W1.alloc (layO 2 (some ⟨w.heap.size, 0, none⟩) 2 2) = W2 := ⟨_, rfl⟩
  have hk2 := layO_blk W1 2 (some ⟨w.heap.size, 0, none⟩) 2 2
  have hb2 := alloc_below W1 (layO 2 (some ⟨w.heap.size, 0, none⟩) 2 2)
  rw [hW2] at hk2 hb2
  have hr2 := hr1.below hb2
  have HB2 := Lib.hid (hb1.trans (hb2.mono hb1.size))
  have HL := Lib.hid (label_any 2 (some ⟨w.heap.size, 0, none⟩) 2 2 [3, 3] 8 W2 hr2)
  rw [lbl_33.1, lbl_33.2] at HL
  have HR2 := Lib.hid hr2
  have HK2 := Lib.hid hk2
  have HW := Lib.hid (show (w.alloc (.cells #[.int .i64 3, .int .i64 3] 3)).alloc (layO 2 (some ⟨w.heap.size, 0, none⟩) 2 2) = W2 by rw [hW1]; exact hW2)
  unfold layV layO at *
  rw [hsz] at hk2
  have c0 := hk2.cell 0 (.int .i64 2) rfl
  have c1 := hk2.cell 1 (.slice (some ⟨w.heap.size, 0, none⟩) 2 2) rfl
  clear hk2 hr2 hb2 hr1 hb1 hW1 hW2
  go_enter Tryd.func10, Tryd.ntmps10
  go_wp2_with (first | rw [HW.out] | fail)
  refine HL.out.mono ?_
  rintro e w3 ⟨rfl, hb3⟩
  have HB3 := Lib.hid (HB2.out.trans (hb3.mono HB2.out.size))
  have K3 := HK2.out.below hb3
  have HC := Lib.hid (count_any 2 (some ⟨w.heap.size, 0, none⟩) 2 2 [3, 3] w3 (HR2.out.below hb3))
  rw [cnt_33] at HC
  unfold layV at HC
  rw [hsz] at K3
  clear hb3 c0 c1 HK2
  have c0 := K3.cell 0 (.int .i64 2) rfl
  have c1 := K3.cell 1 (.slice (some ⟨w.heap.size, 0, none⟩) 2 2) rfl
  go_wp2_with fail
  refine HC.out.mono ?_
  rintro e w4 ⟨rfl, hb4⟩
  have HB4 := Lib.hid (HB3.out.trans (hb4.mono HB3.out.size))
  clear hb4
  go_wp2
  go_ret
  exact ⟨rfl, HB4.out⟩
end Go.Proofs.YtnmmpiddmckghaaDoor.Se
