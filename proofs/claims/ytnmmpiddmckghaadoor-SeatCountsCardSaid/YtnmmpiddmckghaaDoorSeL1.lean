/-
  Layer 13, that the law SeatCounts answers true. Conditions: the groups can be read.
-/
import Derived.Test.YtnmmpiddmckghaaDoorSeAw
import Derived.Test.YtnmmpiddmckghaaDoorSeF
import Derived.Test.YtnmmpiddmckghaaDoorQuR
namespace Go.Proofs.YtnmmpiddmckghaaDoor.Se
open Go.RowKit Go.Proofs.YtnmmpiddmckghaaDoor.Qu Go.Proofs.YtnmmpiddmckghaaDoor.Fld
set_option linter.unusedVariables false

theorem eqI_same (l : List Int) : eqI l l = true := by unfold eqI; simp
set_option maxRecDepth 100000 in
set_option maxHeartbeats 6400000 in
theorem counts_walk (r : Int) (A : Option Addr) (n c : Nat) (gs : List Int) (x : Int) (w : World) (hr : RdI w A n gs) (hx : -9223372036854775808 ≤ x ∧ x ≤ 9223372036854775807) :
    Calls Tryd.prog 3 #[layV r A n c, .int .i64 x] w fun e w' => e = .returned (.bool true) ∧ Below w.heap.size w w' := by
  have hb := alloc_below w (layO r A n c)
  have hr' := RdI.below hr hb
  have HK := layO_blk w r A n c
  unfold layO at *
  obtain ⟨W, hW⟩ : ∃ W, w.alloc (.cells #[.int .i64 r, .slice A n c] 24) = W := ⟨_, rfl⟩
  rw [hW] at hb hr' HK
  have HW := Lib.hid hW
  have HB := Lib.hid hb
  have HRD := Lib.hid (fun (w2 : World) (h2 : Below W.heap.size W w2) => hr'.below h2)
  have HX := Lib.hid (fun (w2 : World) (h2 : Below W.heap.size W w2) => (⟨(HK.below h2).cell 0 _ rfl, (HK.below h2).cell 1 _ rfl⟩ : w2.cell? ⟨w.heap.size, 0, none⟩ = some (.int .i64 r) ∧ w2.cell? ⟨w.heap.size, 1, none⟩ = some (.slice A n c)))
  have HBW := Lib.hid (Below.refl W.heap.size W)
  have HAW := Lib.hid (awake_any W)
  have HC1 := Lib.hid (fun (w2 : World) (h2 : RdI w2 A n gs) => count_any r A n c gs w2 h2)
  have HC2 := Lib.hid (fun (w2 : World) (h2 : RdI w2 A n gs) => rcount_any r A n c gs w2 h2)
  have HR1 := Lib.hid (fun (w2 : World) (h2 : RdI w2 A n gs) => right_any r A n c gs w2 h2)
  have HR2 := Lib.hid (fun (w2 : World) (h2 : RdI w2 A n gs) => rright_any r A n c gs w2 h2)
  have HB1 := Lib.hid (fun (w2 : World) (h2 : RdI w2 A n gs) => beside_any r A n c gs x w2 h2)
  have HB2 := Lib.hid (fun (w2 : World) (h2 : RdI w2 A n gs) => rbeside_any r A n c gs x w2 h2 hx)
  have hL9 := besL_len r gs x
  have hm := hr.2.1
  unfold maxLen at hm
  unfold layV at *
  clear hr hr' HK hb hW
  obtain ⟨c0, c1⟩ := HX.out _ (Below.refl _ _)
  generalize besL r gs x = L at *
  generalize cntS r gs = K at *
  generalize layOk r gs = Q at *
  go_enter Tryd.func3, Tryd.ntmps3
  go_wp2_with (first | rw [HW.out] | fail)
  refine HAW.out.mono ?_
  rintro e w1 ⟨rfl, hb1⟩
  have HBW := Lib.hid (HBW.out.trans hb1)
  clear hb1 c0 c1 HAW
  obtain ⟨c0, c1⟩ := HX.out _ HBW.out
  by_cases hn : 1000 < n
  · go_wp2
    go_ret
    exact ⟨rfl, HB.out.trans (HBW.out.mono HB.out.size)⟩
  go_wp2_with fail
  refine (HB1.out _ (HRD.out _ HBW.out)).mono ?_
  rintro e w2 ⟨v2, rfl, ho2⟩
  have HBW := Lib.hid (HBW.out.trans (ho2.1.mono HBW.out.size))
  obtain ⟨A2, d2, rfl, hr2, -⟩ := ho2.form (by omega)
  have HO2 := Lib.hid hr2
  clear ho2 c0 c1 hr2
  obtain ⟨c0, c1⟩ := HX.out _ HBW.out
  go_wp2_with fail
  refine (HB2.out _ (HRD.out _ HBW.out)).mono ?_
  rintro e w3 ⟨v3, rfl, ho3⟩
  have HBW := Lib.hid (HBW.out.trans (ho3.1.mono HBW.out.size))
  have hr4 := HO2.out.below ho3.1
  obtain ⟨A3, d3, rfl, hr3, -⟩ := ho3.form (by omega)
  have HS := Lib.hid (sameInts_any A2 L.length d2 L A3 L.length d3 L w3 hr4 hr3)
  rw [eqI_same] at HS
  clear ho3 c0 c1 hr3 hr4 HO2
  go_wp2_with fail
  refine HS.out.mono ?_
  rintro e w4 ⟨rfl, hb4⟩
  have HBW := Lib.hid (HBW.out.trans (hb4.mono HBW.out.size))
  clear hb4
  obtain ⟨c0, c1⟩ := HX.out _ HBW.out
  go_wp2_with fail
  go_region_held3 (fun w' => w'.cell? ⟨w.heap.size, 0, none⟩ = some (.int .i64 r) ∧ w'.cell? ⟨w.heap.size, 1, none⟩ = some (.slice A n c)) (first | exact ⟨by assumption, by assumption⟩ | go_keep) (first | (go_at_call 14; refine (HR1.out _ (HRD.out _ (by first | exact HBW.out | exact HBW.out.drew))).mono ?_; rintro e w2 ⟨rfl, hb2⟩; have HBW := Lib.hid ((show Below W.heap.size W _ from by first | exact HBW.out | exact HBW.out.drew).trans (hb2.mono (by exact HBW.out.size))); clear c0 c1 hb2; obtain ⟨c0, c1⟩ := HX.out _ HBW.out) | (go_at_call 15; refine (HR2.out _ (HRD.out _ (by first | exact HBW.out | exact HBW.out.drew))).mono ?_; rintro e w2 ⟨rfl, hb2⟩; have HBW := Lib.hid ((show Below W.heap.size W _ from by first | exact HBW.out | exact HBW.out.drew).trans (hb2.mono (by exact HBW.out.size))); clear c0 c1 hb2; obtain ⟨c0, c1⟩ := HX.out _ HBW.out) | (go_at_call 16; refine (HC1.out _ (HRD.out _ (by first | exact HBW.out | exact HBW.out.drew))).mono ?_; rintro e w2 ⟨rfl, hb2⟩; have HBW := Lib.hid ((show Below W.heap.size W _ from by first | exact HBW.out | exact HBW.out.drew).trans (hb2.mono (by exact HBW.out.size))); clear c0 c1 hb2; obtain ⟨c0, c1⟩ := HX.out _ HBW.out) | (go_at_call 17; refine (HC2.out _ (HRD.out _ (by first | exact HBW.out | exact HBW.out.drew))).mono ?_; rintro e w2 ⟨rfl, hb2⟩; have HBW := Lib.hid ((show Below W.heap.size W _ from by first | exact HBW.out | exact HBW.out.drew).trans (hb2.mono (by exact HBW.out.size))); clear c0 c1 hb2; obtain ⟨c0, c1⟩ := HX.out _ HBW.out))
  all_goals
    go_wp2
    go_ret
    exact ⟨ret_bool (by simp), HB.out.trans (HBW.out.mono HB.out.size)⟩
end Go.Proofs.YtnmmpiddmckghaaDoor.Se
