/-
  Layer 13, that the law SeatNames answers true. Conditions: the groups can be read.
-/
import Derived.Test.YtnmmpiddmckghaaDoorSeAw
import Derived.Test.YtnmmpiddmckghaaDoorSeFi
import Derived.Test.YtnmmpiddmckghaaDoorSeFr
namespace Go.Proofs.YtnmmpiddmckghaaDoor.Se
open Go.RowKit Go.Proofs.YtnmmpiddmckghaaDoor.Qu Go.Proofs.YtnmmpiddmckghaaDoor.Fld
set_option linter.unusedVariables false

theorem str_le {s : ByteArray} (h : s.size ≤ maxLen) : s.size ≤ 9223372036854775807 := by unfold maxLen at h; omega
set_option maxRecDepth 100000 in
set_option maxHeartbeats 6400000 in
theorem names_walk (r : Int) (A : Option Addr) (n c : Nat) (gs : List Int) (x : Int) (s : ByteArray) (w : World) (hr : RdI w A n gs) (hx : -9223372036854775808 ≤ x ∧ x ≤ 9223372036854775807) (hsz : s.size ≤ 9223372036854775807) :
    Calls Tryd.prog 4 #[layV r A n c, .int .i64 x, .string s] w fun e w' => e = .returned (.bool true) ∧ Below w.heap.size w w' := by
  have hb := alloc_below w (layO r A n c)
  have hr' := RdI.below hr hb
  have HK := layO_blk w r A n c
  unfold layO at *
  obtain ⟨W, hW⟩ : ∃ W, w.alloc (.cells #[.int .i64 r, .slice A n c] 24) = W := ⟨_, rfl⟩
  rw [hW] at hb hr' HK
  have HW := Lib.hid hW
  have HB := Lib.hid hb
  have HRD := Lib.hid (fun (w2 : World) (h2 : Below W.heap.size W w2) => hr'.below h2)
  have HX := Lib.hid (fun (w2 : World) (h2 : Below W.heap.size W w2) => (⟨(HK.below h2).cell 0 _ rfl, (HK.below h2).cell 1 _ rfl⟩ : w2.cell? ⟨w.heap.size, 0, none⟩ = some (.int .i64 r) ∧ w2.cell? ⟨w.heap.size, 1, none⟩ = some (.slice A n c)))
  have HBW := Lib.hid (Below.refl W.heap.size W)
  have HAW := Lib.hid (awake_any W)
  have H1 := Lib.hid (fun (w2 : World) (h2 : RdI w2 A n gs) => label_any r A n c gs x w2 h2)
  have H2 := Lib.hid (fun (w2 : World) (h2 : RdI w2 A n gs) => rlabel_any r A n c gs x w2 h2 hx)
  have H3 := Lib.hid (fun (w2 : World) (h2 : RdI w2 A n gs) => find_any r A n c gs s hsz w2 h2)
  have H4 := Lib.hid (fun (w2 : World) (h2 : RdI w2 A n gs) => rfind_any r A n c gs s w2 h2)
  have hm := hr.2.1
  unfold maxLen at hm
  unfold layV at *
  clear hr hr' HK hb hW
  obtain ⟨c0, c1⟩ := HX.out _ (Below.refl _ _)
  generalize lblS r gs x = L at *
  generalize lblE r gs x = E at *
  generalize fndN r gs s.data.toList = F at *
  generalize fndE r gs s.data.toList = G at *
  have e1 : (L.toList == L.toList) = true := by simp
  have e2 : (E == E) = true := by simp
  have e3 : (F == F) = true := by simp
  have e4 : (G == G) = true := by simp
  go_enter Tryd.func4, Tryd.ntmps4
  go_wp2_with (first | rw [HW.out] | fail)
  refine HAW.out.mono ?_
  rintro e w1 ⟨rfl, hb1⟩
  have HBW := Lib.hid (HBW.out.trans hb1)
  clear hb1 c0 c1 HAW
  obtain ⟨c0, c1⟩ := HX.out _ HBW.out
  by_cases hn : 1000 < n
  · go_wp2
    go_ret
    exact ⟨rfl, HB.out.trans (HBW.out.mono HB.out.size)⟩
  go_wp2_with fail
  refine (H1.out _ (HRD.out _ HBW.out)).mono ?_
  rintro e w2 ⟨rfl, hb2⟩
  have HBW := Lib.hid (HBW.out.trans (hb2.mono HBW.out.size))
  clear hb2 c0 c1
  obtain ⟨c0, c1⟩ := HX.out _ HBW.out
  go_wp2_with fail
  refine (H2.out _ (HRD.out _ HBW.out)).mono ?_
  rintro e w3 ⟨rfl, hb3⟩
  have HBW := Lib.hid (HBW.out.trans (hb3.mono HBW.out.size))
  clear hb3 c0 c1
  obtain ⟨c0, c1⟩ := HX.out _ HBW.out
  go_wp2_with fail
  refine (H3.out _ (HRD.out _ HBW.out)).mono ?_
  rintro e w4 ⟨rfl, hb4⟩
  have HBW := Lib.hid (HBW.out.trans (hb4.mono HBW.out.size))
  clear hb4 c0 c1
  obtain ⟨c0, c1⟩ := HX.out _ HBW.out
  go_wp2_with fail
  refine (H4.out _ (HRD.out _ HBW.out)).mono ?_
  rintro e w5 ⟨rfl, hb5⟩
  have HBW := Lib.hid (HBW.out.trans (hb5.mono HBW.out.size))
  clear hb5 c0 c1
  go_wp2
  go_ret
  exact ⟨ret_bool (by simp), HB.out.trans (HBW.out.mono HB.out.size)⟩
end Go.Proofs.YtnmmpiddmckghaaDoor.Se
