/-
  Layer 14, that the law NestReturns answers true. Conditions: the limits and the sales can be read.
-/
import Derived.Test.YtofbioefckdmbaaNeAw
namespace Go.Proofs.Ytofbioefckdmbaa.Ne
open Go.RowKit Go.Proofs.Ytofbioefckdmbaa.Qu Go.Proofs.Ytofbioefckdmbaa.Fld
set_option linter.unusedVariables false

theorem sellE_cases (L S : List Int) (c d : Int) : sellE L S c d = 0 ∨ sellE L S c d = 1 ∨ sellE L S c d = 3 := by
  unfold sellE
  split
  · split
    · simp
    · split <;> simp
  · simp
theorem sell_back {L S : List Int} {c d : Int} (h : sellE L S c d = 0) : backE L (sellL L S c d) c d = 0 ∧ backL L (sellL L S c d) c d = S := by
  obtain ⟨⟨h1, h2, h3⟩, h4, h5, h6, h7⟩ := sell_ok h
  have hr := sell_right h
  have hS := h1.2.1
  have h9 := (h1.2.2.1 c.toNat (by omega)).1
  have hat := addA_at S c.toNat d (by omega) c.toNat
  rw [if_pos rfl] at hat
  have hE : backE L (sellL L S c d) c d = 0 := by
    unfold backE
    rw [if_pos ⟨hr, h2, h3⟩, h7, hat, if_neg (by omega)]
  refine ⟨hE, ?_⟩
  unfold backL
  rw [if_pos hE, h7]
  exact add_back S c.toNat d (by omega)
set_option maxRecDepth 100000 in
set_option maxHeartbeats 3200000 in
theorem returns_walk (A : Option Addr) (n cap : Nat) (L : List Int) (B : Option Addr) (m cap2 : Nat) (S : List Int) (x y : Int) (w : World) (ha : RdI w A n L) (hb : RdI w B m S) (hy : -9223372036854775808 ≤ y ∧ y ≤ 9223372036854775807) :
    Calls Try.prog 7 #[.slice A n cap, .slice B m cap2, .agg #[.int .i64 x, .int .i64 y]] w fun e w' => e = .returned (.bool true) ∧ Below w.heap.size w w' := by
  have hb0 := alloc_below w (.cells #[.int .i64 x, .int .i64 y] 33)
  have hk0 := Blk.new w #[.int .i64 x, .int .i64 y] 33
  obtain ⟨W, hW⟩ : ∃ W, w.alloc (.cells #[.int .i64 x, .int .i64 y] 33) = W := ⟨_, rfl⟩
  rw [hW] at hb0 hk0
  have HW := Lib.hid hW
  have HB0 := Lib.hid hb0
  have HX := Lib.hid (fun (w2 : World) (h2 : Below W.heap.size W w2) => (⟨(hk0.below h2).cell 0 _ rfl, (hk0.below h2).cell 1 _ rfl⟩ : w2.cell? ⟨w.heap.size, 0, none⟩ = some (.int .i64 x) ∧ w2.cell? ⟨w.heap.size, 1, none⟩ = some (.int .i64 y)))
  have HAW := Lib.hid (awake_any W)
  have ha' := ha.below hb0
  have hb' := hb.below hb0
  have HBW := Lib.hid (Below.refl W.heap.size W)
  have H1 := Lib.hid (fun (w2 : World) (h2 : Below W.heap.size W w2) => sell_any A n cap L B m cap2 S x y w2 (ha'.below h2) (hb'.below h2))
  have HA := Lib.hid (fun (w2 : World) (h2 : Below W.heap.size W w2) => ha'.below h2)
  have HS := Lib.hid (fun (w2 : World) (h2 : Below W.heap.size W w2) => hb'.below h2)
  have HCS := Lib.hid (sellE_cases L S x y)
  have HSB := Lib.hid (fun h => sell_back (L := L) (S := S) (c := x) (d := y) h)
  have HES := Lib.hid (eqI_same S)
  have HLS := Lib.hid hb.1
  clear ha hb ha' hb' hW hb0 hk0
  generalize sellL L S x y = K at *
  generalize sellE L S x y = E at *
  rcases HCS.out with rfl | rfl | rfl
  · have HK := Lib.hid (HSB.out rfl)
    obtain ⟨c0, c1⟩ := HX.out _ (Below.refl _ _)
    go_enter Try.func7, Try.ntmps7
    go_wp2_with (first | rw [HW.out] | fail)
    refine (HAW.out).mono ?_
    rintro e w2 ⟨rfl, hb2⟩
    have HBW := Lib.hid (HBW.out.trans (hb2.mono HBW.out.size))
    clear hb2 c0 c1
    obtain ⟨c0, c1⟩ := HX.out _ HBW.out
    go_wp2_with fail
    refine (H1.out _ HBW.out).mono ?_
    rintro e w2 ⟨B1, d1, rfl, hr1, hb2⟩
    have HR1 := Lib.hid hr1
    have HBW := Lib.hid (HBW.out.trans (hb2.mono HBW.out.size))
    clear hb2 c0 c1 hr1
    obtain ⟨c0, c1⟩ := HX.out _ HBW.out
    have H3 := Lib.hid (back_any A n cap L B1 K.length d1 K x y w2 (HA.out _ HBW.out) HR1.out hy)
    rw [HK.out.1, HK.out.2] at H3
    go_wp2_with fail
    refine (H3.out).mono ?_
    rintro e w2 ⟨B3, d3, rfl, hr3, hb2⟩
    have HR3 := Lib.hid hr3
    have HBW := Lib.hid (HBW.out.trans (hb2.mono HBW.out.size))
    clear hb2 c0 c1 hr3
    obtain ⟨c0, c1⟩ := HX.out _ HBW.out
    have HT := Lib.hid (sameInts_any B3 S.length d3 S B m cap2 S w2 HR3.out (HS.out _ HBW.out))
    rw [HES.out] at HT
    go_wp2_with fail
    refine (HT.out).mono ?_
    rintro e w2 ⟨rfl, hb2⟩
    have HBW := Lib.hid (HBW.out.trans (hb2.mono HBW.out.size))
    clear hb2 c0 c1
    obtain ⟨c0, c1⟩ := HX.out _ HBW.out
    go_wp2
    go_ret
    exact ⟨rfl, HB0.out.trans (HBW.out.mono HB0.out.size)⟩
  all_goals
    obtain ⟨c0, c1⟩ := HX.out _ (Below.refl _ _)
    go_enter Try.func7, Try.ntmps7
    go_wp2_with (first | rw [HW.out] | fail)
    refine (HAW.out).mono ?_
    rintro e w2 ⟨rfl, hb2⟩
    have HBW := Lib.hid (HBW.out.trans (hb2.mono HBW.out.size))
    clear hb2 c0 c1
    obtain ⟨c0, c1⟩ := HX.out _ HBW.out
    go_wp2_with fail
    refine (H1.out _ HBW.out).mono ?_
    rintro e w2 ⟨B1, d1, rfl, hr1, hb2⟩
    have HBW := Lib.hid (HBW.out.trans (hb2.mono HBW.out.size))
    clear hb2 c0 c1 hr1
    obtain ⟨c0, c1⟩ := HX.out _ HBW.out
    go_wp2
    go_ret
    exact ⟨rfl, HB0.out.trans (HBW.out.mono HB0.out.size)⟩
end Go.Proofs.Ytofbioefckdmbaa.Ne
