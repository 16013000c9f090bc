/-
  Layer 14, that the law NestSells answers true. Conditions: the limits and the sales can be read.
-/
import Derived.Test.YtofbioefckdmbaaNeAw
namespace Go.Proofs.Ytofbioefckdmbaa.Ne
open Go.RowKit Go.Proofs.Ytofbioefckdmbaa.Qu Go.Proofs.Ytofbioefckdmbaa.Fld
set_option linter.unusedVariables false

set_option maxRecDepth 100000 in
set_option maxHeartbeats 3200000 in
theorem sells_walk (A : Option Addr) (n cap : Nat) (L : List Int) (B : Option Addr) (m cap2 : Nat) (S : List Int) (x y : Int) (w : World) (ha : RdI w A n L) (hb : RdI w B m S) (hy : -9223372036854775808 ≤ y ∧ y ≤ 9223372036854775807) :
    Calls Try.prog 5 #[.slice A n cap, .slice B m cap2, .agg #[.int .i64 x, .int .i64 y]] w fun e w' => e = .returned (.bool true) ∧ Below w.heap.size w w' := by
  have hb0 := alloc_below w (.cells #[.int .i64 x, .int .i64 y] 33)
  have hk0 := Blk.new w #[.int .i64 x, .int .i64 y] 33
  obtain ⟨W, hW⟩ : ∃ W, w.alloc (.cells #[.int .i64 x, .int .i64 y] 33) = W := ⟨_, rfl⟩
  rw [hW] at hb0 hk0
  have HW := Lib.hid hW
  have HB0 := Lib.hid hb0
  have HX := Lib.hid (fun (w2 : World) (h2 : Below W.heap.size W w2) => (⟨(hk0.below h2).cell 0 _ rfl, (hk0.below h2).cell 1 _ rfl⟩ : w2.cell? ⟨w.heap.size, 0, none⟩ = some (.int .i64 x) ∧ w2.cell? ⟨w.heap.size, 1, none⟩ = some (.int .i64 y)))
  have HAW := Lib.hid (awake_any W)
  have ha' := ha.below hb0
  have hb' := hb.below hb0
  have HBW := Lib.hid (Below.refl W.heap.size W)
  have H1 := Lib.hid (fun (w2 : World) (h2 : Below W.heap.size W w2) => sell_any A n cap L B m cap2 S x y w2 (ha'.below h2) (hb'.below h2))
  have H2 := Lib.hid (fun (w2 : World) (h2 : Below W.heap.size W w2) => rsell_any A n cap L B m cap2 S x y w2 (ha'.below h2) (hb'.below h2))
  have H3 := Lib.hid (fun (w2 : World) (h2 : Below W.heap.size W w2) => back_any A n cap L B m cap2 S x y w2 (ha'.below h2) (hb'.below h2) hy)
  have H4 := Lib.hid (fun (w2 : World) (h2 : Below W.heap.size W w2) => rback_any A n cap L B m cap2 S x y w2 (ha'.below h2) (hb'.below h2) hy)
  have HE1 := Lib.hid (eqI_same (sellL L S x y))
  have HE2 := Lib.hid (eqI_same (backL L S x y))
  clear ha hb ha' hb' hy hW hb0 hk0
  generalize sellL L S x y = K at *
  generalize sellE L S x y = E at *
  generalize backL L S x y = K2 at *
  generalize backE L S x y = E2 at *
  have q3 : (E == E) = true := by simp
  have q4 : (E2 == E2) = true := by simp
  obtain ⟨c0, c1⟩ := HX.out _ (Below.refl _ _)
  go_enter Try.func5, Try.ntmps5
  go_wp2_with (first | rw [HW.out] | fail)
  refine (HAW.out).mono ?_
  rintro e w2 ⟨rfl, hb2⟩
  have HBW := Lib.hid (HBW.out.trans (hb2.mono HBW.out.size))
  clear hb2 c0 c1
  obtain ⟨c0, c1⟩ := HX.out _ HBW.out
  go_wp2_with fail
  refine (H1.out _ HBW.out).mono ?_
  rintro e w2 ⟨B1, d1, rfl, hr1, hb2⟩
  have HR1 := Lib.hid hr1
  have HBW := Lib.hid (HBW.out.trans (hb2.mono HBW.out.size))
  clear hb2 c0 c1 hr1
  obtain ⟨c0, c1⟩ := HX.out _ HBW.out
  go_wp2_with fail
  refine (H2.out _ HBW.out).mono ?_
  rintro e w2 ⟨B2, d2, rfl, hr2, hb2⟩
  have HS := Lib.hid (sameInts_any B1 K.length d1 K B2 K.length d2 K w2 (HR1.out.below hb2) hr2)
  rw [HE1.out] at HS
  have HBW := Lib.hid (HBW.out.trans (hb2.mono HBW.out.size))
  clear hb2 c0 c1 hr2
  obtain ⟨c0, c1⟩ := HX.out _ HBW.out
  go_wp2_with fail
  refine (HS.out).mono ?_
  rintro e w2 ⟨rfl, hb2⟩
  have HBW := Lib.hid (HBW.out.trans (hb2.mono HBW.out.size))
  clear hb2 c0 c1
  obtain ⟨c0, c1⟩ := HX.out _ HBW.out
  go_wp2_with fail
  refine (H3.out _ HBW.out).mono ?_
  rintro e w2 ⟨B3, d3, rfl, hr3, hb2⟩
  have HR3 := Lib.hid hr3
  have HBW := Lib.hid (HBW.out.trans (hb2.mono HBW.out.size))
  clear hb2 c0 c1 hr3
  obtain ⟨c0, c1⟩ := HX.out _ HBW.out
  go_wp2_with fail
  refine (H4.out _ HBW.out).mono ?_
  rintro e w2 ⟨B4, d4, rfl, hr4, hb2⟩
  have HT := Lib.hid (sameInts_any B3 K2.length d3 K2 B4 K2.length d4 K2 w2 (HR3.out.below hb2) hr4)
  rw [HE2.out] at HT
  have HBW := Lib.hid (HBW.out.trans (hb2.mono HBW.out.size))
  clear hb2 c0 c1 hr4
  obtain ⟨c0, c1⟩ := HX.out _ HBW.out
  go_wp2_with fail
  refine (HT.out).mono ?_
  rintro e w2 ⟨rfl, hb2⟩
  have HBW := Lib.hid (HBW.out.trans (hb2.mono HBW.out.size))
  clear hb2 c0 c1
  obtain ⟨c0, c1⟩ := HX.out _ HBW.out
  go_wp2
  go_ret
  exact ⟨rfl, HB0.out.trans (HBW.out.mono HB0.out.size)⟩
end Go.Proofs.Ytofbioefckdmbaa.Ne
