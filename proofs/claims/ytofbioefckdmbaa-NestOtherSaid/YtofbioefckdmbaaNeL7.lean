/-
  Layer 14, that the law NestOther answers true. Conditions: the limits and the sales can be read.
-/
import Derived.Test.YtofbioefckdmbaaNeAw
import Derived.Test.YtofbioefckdmbaaNeL5
namespace Go.Proofs.Ytofbioefckdmbaa.Ne
open Go.RowKit Go.Proofs.Ytofbioefckdmbaa.Qu Go.Proofs.Ytofbioefckdmbaa.Fld
set_option linter.unusedVariables false

theorem sell_other {L S : List Int} {c d z : Int} (h : sellE L S c d = 0) (h0 : 0 ≤ z) (h1 : z ≤ c) : lftE L S z = 0 ∧ lftE L (sellL L S c d) z = 0 ∧ lftV L (sellL L S c d) z = lftV L S z - d ∧ 0 ≤ lftV L (sellL L S c d) z ∧ 1 ≤ d ∧ d ≤ 10000 ∧ lftV L S z ≤ 10000 := by
  obtain ⟨⟨g1, g2, g3⟩, g4, g5, g6, g7⟩ := sell_ok h
  have hr := sell_right h
  have hS := g1.2.1
  have p1 : hasP L S z := ⟨g1, h0, by omega⟩
  have p2 : hasP L (sellL L S c d) z := ⟨hr, h0, by omega⟩
  have e := lft_add_le (L := L) (S := S) (c := c.toNat) (d := d) (by omega) (by omega) (k := z.toNat) (by omega)
  have b := lft_bd hr z.toNat (by omega)
  have b2 := lft_bd g1 z.toNat (by omega)
  rw [lftE_pos p1, lftE_pos p2, lftV_pos p1, lftV_pos p2]
  rw [g7] at b ⊢
  exact ⟨rfl, rfl, e, b.1, g4, g5, b2.2⟩
set_option maxRecDepth 100000 in
set_option maxHeartbeats 3200000 in
theorem other_walk (A : Option Addr) (n cap : Nat) (L : List Int) (B : Option Addr) (m cap2 : Nat) (S : List Int) (x y z : Int) (w : World) (ha : RdI w A n L) (hb : RdI w B m S) :
    Calls Try.prog 9 #[.slice A n cap, .slice B m cap2, .agg #[.int .i64 x, .int .i64 y, .int .i64 z]] w fun e w' => e = .returned (.bool true) ∧ Below w.heap.size w w' := by
  have hb0 := alloc_below w (.cells #[.int .i64 x, .int .i64 y, .int .i64 z] 38)
  have hk0 := Blk.new w #[.int .i64 x, .int .i64 y, .int .i64 z] 38
  obtain ⟨W, hW⟩ : ∃ W, w.alloc (.cells #[.int .i64 x, .int .i64 y, .int .i64 z] 38) = W := ⟨_, rfl⟩
  rw [hW] at hb0 hk0
  have HW := Lib.hid hW
  have HB0 := Lib.hid hb0
  have HX := Lib.hid (fun (w2 : World) (h2 : Below W.heap.size W w2) => (⟨(hk0.below h2).cell 0 _ rfl, (hk0.below h2).cell 1 _ rfl, (hk0.below h2).cell 2 _ rfl⟩ : w2.cell? ⟨w.heap.size, 0, none⟩ = some (.int .i64 x) ∧ w2.cell? ⟨w.heap.size, 1, none⟩ = some (.int .i64 y) ∧ w2.cell? ⟨w.heap.size, 2, none⟩ = some (.int .i64 z)))
  have HAW := Lib.hid (awake_any W)
  have ha' := ha.below hb0
  have hb' := hb.below hb0
  have HBW := Lib.hid (Below.refl W.heap.size W)
  have H1 := Lib.hid (fun (w2 : World) (h2 : Below W.heap.size W w2) => sell_any A n cap L B m cap2 S x y w2 (ha'.below h2) (hb'.below h2))
  have H2 := Lib.hid (fun (w2 : World) (h2 : Below W.heap.size W w2) => left_any A n cap L B m cap2 S z w2 (ha'.below h2) (hb'.below h2))
  have HA := Lib.hid (fun (w2 : World) (h2 : Below W.heap.size W w2) => ha'.below h2)
  have HCS := Lib.hid (sellE_cases L S x y)
  have HSO := Lib.hid (fun h h0 h1 => sell_other (L := L) (S := S) (c := x) (d := y) (z := z) h h0 h1)
  clear ha hb ha' hb' hW hb0 hk0
  generalize sellL L S x y = K at *
  generalize sellE L S x y = E at *
  rcases HCS.out with rfl | rfl | rfl
  · by_cases hz0 : z < 0
    · obtain ⟨c0, c1, c2⟩ := HX.out _ (Below.refl _ _)
      go_enter Try.func9, Try.ntmps9
      go_wp2_with (first | rw [HW.out] | fail)
      refine (HAW.out).mono ?_
      rintro e w2 ⟨rfl, hb2⟩
      have HBW := Lib.hid (HBW.out.trans (hb2.mono HBW.out.size))
      clear hb2 c0 c1 c2
      obtain ⟨c0, c1, c2⟩ := HX.out _ HBW.out
      go_wp2_with fail
      refine (H1.out _ HBW.out).mono ?_
      rintro e w2 ⟨B1, d1, rfl, hr1, hb2⟩
      have HBW := Lib.hid (HBW.out.trans (hb2.mono HBW.out.size))
      clear hb2 c0 c1 c2 hr1
      obtain ⟨c0, c1, c2⟩ := HX.out _ HBW.out
      go_wp2
      go_ret
      exact ⟨rfl, HB0.out.trans (HBW.out.mono HB0.out.size)⟩
    by_cases hz1 : x < z
    · obtain ⟨c0, c1, c2⟩ := HX.out _ (Below.refl _ _)
      go_enter Try.func9, Try.ntmps9
      go_wp2_with (first | rw [HW.out] | fail)
      refine (HAW.out).mono ?_
      rintro e w2 ⟨rfl, hb2⟩
      have HBW := Lib.hid (HBW.out.trans (hb2.mono HBW.out.size))
      clear hb2 c0 c1 c2
      obtain ⟨c0, c1, c2⟩ := HX.out _ HBW.out
      go_wp2_with fail
      refine (H1.out _ HBW.out).mono ?_
      rintro e w2 ⟨B1, d1, rfl, hr1, hb2⟩
      have HBW := Lib.hid (HBW.out.trans (hb2.mono HBW.out.size))
      clear hb2 c0 c1 c2 hr1
      obtain ⟨c0, c1, c2⟩ := HX.out _ HBW.out
      go_wp2
      go_ret
      exact ⟨rfl, HB0.out.trans (HBW.out.mono HB0.out.size)⟩
    obtain ⟨k1, k2, k3, k4, k5, k6, k7⟩ := HSO.out rfl (by omega) (by omega)
    have HK1 := Lib.hid k1
    have HK2 := Lib.hid k2
    have HK3 := Lib.hid k3
    clear k1 k2
    unfold Tup at H2
    rw [HK1.out] at H2
    generalize hv1 : lftV L S z = V1 at *
    generalize hv2 : lftV L K z = V2 at *
    have HV2 := Lib.hid hv2
    have hv5 : V2 ≤ V1 := by omega
    have hv6 : V1 - V2 ≤ y := by omega
    have hv7 : -9223372036854775808 ≤ V1 - V2 ∧ V1 - V2 ≤ 9223372036854775807 := by omega
    clear hv1 hv2 k3
    obtain ⟨c0, c1, c2⟩ := HX.out _ (Below.refl _ _)
    go_enter Try.func9, Try.ntmps9
    go_wp2_with (first | rw [HW.out] | fail)
    refine (HAW.out).mono ?_
    rintro e w2 ⟨rfl, hb2⟩
    have HBW := Lib.hid (HBW.out.trans (hb2.mono HBW.out.size))
    clear hb2 c0 c1 c2
    obtain ⟨c0, c1, c2⟩ := HX.out _ HBW.out
    go_wp2_with fail
    refine (H1.out _ HBW.out).mono ?_
    rintro e w2 ⟨B1, d1, rfl, hr1, hb2⟩
    have HR1 := Lib.hid hr1
    have HBW := Lib.hid (HBW.out.trans (hb2.mono HBW.out.size))
    clear hb2 c0 c1 c2 hr1
    obtain ⟨c0, c1, c2⟩ := HX.out _ HBW.out
    go_wp2_with fail
    refine (H2.out _ HBW.out).mono ?_
    rintro e w2 ⟨rfl, hb2⟩
    have HR1 := Lib.hid (HR1.out.below hb2)
    have HBW := Lib.hid (HBW.out.trans (hb2.mono HBW.out.size))
    clear hb2 c0 c1 c2
    obtain ⟨c0, c1, c2⟩ := HX.out _ HBW.out
    have H3 := Lib.hid (left_any A n cap L B1 K.length d1 K z w2 (HA.out _ HBW.out) HR1.out)
    unfold Tup at H3
    rw [HK2.out, HV2.out] at H3
    go_wp2_with fail
    refine (H3.out).mono ?_
    rintro e w2 ⟨rfl, hb2⟩
    have HBW := Lib.hid (HBW.out.trans (hb2.mono HBW.out.size))
    clear hb2 c0 c1 c2
    obtain ⟨c0, c1, c2⟩ := HX.out _ HBW.out
    go_wp2
    go_ret
    exact ⟨rfl, HB0.out.trans (HBW.out.mono HB0.out.size)⟩
  all_goals
    obtain ⟨c0, c1, c2⟩ := HX.out _ (Below.refl _ _)
    go_enter Try.func9, Try.ntmps9
    go_wp2_with (first | rw [HW.out] | fail)
    refine (HAW.out).mono ?_
    rintro e w2 ⟨rfl, hb2⟩
    have HBW := Lib.hid (HBW.out.trans (hb2.mono HBW.out.size))
    clear hb2 c0 c1 c2
    obtain ⟨c0, c1, c2⟩ := HX.out _ HBW.out
    go_wp2_with fail
    refine (H1.out _ HBW.out).mono ?_
    rintro e w2 ⟨B1, d1, rfl, hr1, hb2⟩
    have HBW := Lib.hid (HBW.out.trans (hb2.mono HBW.out.size))
    clear hb2 c0 c1 c2 hr1
    obtain ⟨c0, c1, c2⟩ := HX.out _ HBW.out
    go_wp2
    go_ret
    exact ⟨rfl, HB0.out.trans (HBW.out.mono HB0.out.size)⟩
end Go.Proofs.Ytofbioefckdmbaa.Ne
