/-
  Layer 13, that the law SeatBest answers true. Conditions: the groups and the taken seats can be read.
-/
import Derived.Test.YtnmmpiddmckghaaDoorSeAw
import Derived.Test.YtnmmpiddmckghaaDoorSeBr
namespace Go.Proofs.YtnmmpiddmckghaaDoor.Se
open Go.RowKit Go.Proofs.YtnmmpiddmckghaaDoor.Qu Go.Proofs.YtnmmpiddmckghaaDoor.Fld
set_option linter.unusedVariables false

theorem eqI_self (l : List Int) : eqI l l = true := by unfold eqI; simp
set_option maxRecDepth 100000 in
set_option maxHeartbeats 3200000 in
theorem best_walk (r : Int) (A : Option Addr) (n c : Nat) (gs : List Int) (T : Option Addr) (tn tc : Nat) (tk : List Int) (m : Int) (w : World) (hr : RdI w A n gs) (ht : RdI w T tn tk) :
    Calls Tryd.prog 5 #[layV r A n c, .slice T tn tc, .int .i64 m] w fun e w' => e = .returned (.bool true) ∧ Below w.heap.size w w' := by
  have hb := alloc_below w (layO r A n c)
  have hr' := RdI.below hr hb
  have HK := layO_blk w r A n c
  unfold layO at *
  obtain ⟨W, hW⟩ : ∃ W, w.alloc (.cells #[.int .i64 r, .slice A n c] 24) = W := ⟨_, rfl⟩
  rw [hW] at hb hr' HK
  have HW := Lib.hid hW
  have HB := Lib.hid hb
  have HRD := Lib.hid (fun (w2 : World) (h2 : Below W.heap.size W w2) => hr'.below h2)
  have HX := Lib.hid (fun (w2 : World) (h2 : Below W.heap.size W w2) => (⟨(HK.below h2).cell 0 _ rfl, (HK.below h2).cell 1 _ rfl⟩ : w2.cell? ⟨w.heap.size, 0, none⟩ = some (.int .i64 r) ∧ w2.cell? ⟨w.heap.size, 1, none⟩ = some (.slice A n c)))
  have HBW := Lib.hid (Below.refl W.heap.size W)
  have HAW := Lib.hid (awake_any W)
  have ht' := ht.below hb
  have HTD := Lib.hid (fun (w2 : World) (h2 : Below W.heap.size W w2) => ht'.below h2)
  have H1 := Lib.hid (fun (w2 : World) (h2 : RdI w2 A n gs) (h3 : RdI w2 T tn tk) => best_any r A n c gs T tn tc tk m w2 h2 h3)
  have H2 := Lib.hid (fun (w2 : World) (h2 : RdI w2 A n gs) (h3 : RdI w2 T tn tk) => rbest_any r A n c gs T tn tc tk m w2 h2 h3)
  have hm := hr.2.1
  have hm2 := ht.2.1
  unfold maxLen at hm hm2
  unfold layV at *
  clear hr hr' HK hb hW ht ht'
  obtain ⟨c0, c1⟩ := HX.out _ (Below.refl _ _)
  generalize bstL r gs tk m = L at *
  generalize bstE r gs tk m = E at *
  have e2 : (E == E) = true := by simp
  go_enter Tryd.func5, Tryd.ntmps5
  go_wp2_with (first | rw [HW.out] | fail)
  refine HAW.out.mono ?_
  rintro e w1 ⟨rfl, hb2⟩
  have HBW := Lib.hid (HBW.out.trans (hb2.mono HBW.out.size))
  clear hb2 c0 c1
  obtain ⟨c0, c1⟩ := HX.out _ HBW.out
  have HB1 := Lib.hid (HB.out.trans (HBW.out.mono HB.out.size))
  by_cases hn : 1000 < n
  · go_wp2
    go_ret
    exact ⟨rfl, HB1.out⟩
  by_cases hn2 : 2000 < tn
  · go_wp2
    go_ret
    exact ⟨rfl, HB1.out⟩
  go_wp2_with fail
  refine (H1.out _ (HRD.out _ HBW.out) (HTD.out _ HBW.out)).mono ?_
  rintro e w2 ⟨B2, d2, rfl, hr2, hb2⟩
  have HO2 := Lib.hid hr2
  clear hr2
  have HBW := Lib.hid (HBW.out.trans (hb2.mono HBW.out.size))
  clear hb2 c0 c1
  obtain ⟨c0, c1⟩ := HX.out _ HBW.out
  go_wp2_with fail
  refine (H2.out _ (HRD.out _ HBW.out) (HTD.out _ HBW.out)).mono ?_
  rintro e w3 ⟨B3, d3, rfl, hr3, hb2⟩
  have HS := Lib.hid (sameInts_any B2 L.length d2 L B3 L.length d3 L w3 (HO2.out.below hb2) hr3)
  rw [eqI_self] at HS
  clear hr3
  have HBW := Lib.hid (HBW.out.trans (hb2.mono HBW.out.size))
  clear hb2 c0 c1
  obtain ⟨c0, c1⟩ := HX.out _ HBW.out
  go_wp2_with fail
  refine HS.out.mono ?_
  rintro e w4 ⟨rfl, hb2⟩
  have HBW := Lib.hid (HBW.out.trans (hb2.mono HBW.out.size))
  clear hb2 c0 c1
  obtain ⟨c0, c1⟩ := HX.out _ HBW.out
  go_wp2
  go_ret
  exact ⟨ret_bool (by simp), HB.out.trans (HBW.out.mono HB.out.size)⟩
end Go.Proofs.YtnmmpiddmckghaaDoor.Se
