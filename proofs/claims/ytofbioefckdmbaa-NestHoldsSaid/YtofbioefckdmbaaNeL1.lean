/-
  Layer 14, that the law NestLimits answers true. Conditions: the parts can be read, each a float's bits; no more of them than there is room.
-/
import Derived.Test.YtofbioefckdmbaaNeAw
import Derived.Test.YtofbioefckdmbaaNeM
namespace Go.Proofs.Ytofbioefckdmbaa.Ne
open Go.RowKit Go.Proofs.Ytofbioefckdmbaa.Qu Go.Proofs.Ytofbioefckdmbaa.Fld
set_option linter.unusedVariables false

theorem rdF_below {w w' : World} {A : Option Addr} {n : Nat} {zs : List Nat} (h : Fr.RdF w A n zs) (hb : Below w.heap.size w w') : Fr.RdF w' A n zs := by
  obtain ⟨h1, h2, h3⟩ := h
  refine ⟨h1, h2, fun hn => ?_⟩
  obtain ⟨b, off, rfl, hc⟩ := h3 hn
  exact ⟨b, off, rfl, fun i hi => (hb.cell (p := ⟨b, off + i, none⟩) (lt_of_cell (hc i hi))).trans (hc i hi)⟩
set_option maxRecDepth 100000 in
set_option maxHeartbeats 3200000 in
theorem limits_walk (s : Int) (A : Option Addr) (n cap : Nat) (zs : List Nat) (w : World) (hr : Fr.RdF w A n zs) (hz : ∀ i, i < n → zs.getD i 0 < 18446744073709551616) (hn : n ≤ cap) (hm : cap ≤ 9223372036854775807) :
    Calls Try.prog 3 #[.int .i64 s, .slice A n cap] w fun e w' => e = .returned (.bool true) ∧ Below w.heap.size w w' := by
  have HAW := Lib.hid (awake_any w)
  have H1 := Lib.hid (fun (W : World) (hW : Below w.heap.size w W) => lims_any s A n cap zs W (rdF_below hr hW) hz hn hm)
  have H2 := Lib.hid (fun (W : World) (hW : Below w.heap.size w W) => rlims_any s A n cap zs W (rdF_below hr hW) hz hn hm)
  have HE := Lib.hid (eqI_same (limsV s zs))
  clear hr hz
  generalize limsV s zs = K at *
  generalize limsE s zs = E at *
  have q3 : (E == E) = true := by simp
  go_enter Try.func3, Try.ntmps3
  go_wp2_with fail
  refine HAW.out.mono ?_
  rintro e w1 ⟨rfl, hb1⟩
  have HB := Lib.hid hb1
  clear hb1
  go_wp2_with fail
  refine (H1.out _ HB.out).mono ?_
  rintro e w2 ⟨B1, c1, rfl, hr1, hb2⟩
  have HR1 := Lib.hid hr1
  have HB := Lib.hid (HB.out.trans (hb2.mono HB.out.size))
  clear hb2 hr1
  go_wp2_with fail
  refine (H2.out _ HB.out).mono ?_
  rintro e w3 ⟨B2, c2, rfl, hr2, hb3⟩
  have HS := Lib.hid (sameInts_any B1 K.length c1 K B2 K.length c2 K w3 (HR1.out.below hb3) hr2)
  rw [HE.out] at HS
  have HB := Lib.hid (HB.out.trans (hb3.mono HB.out.size))
  clear hb3 hr2
  go_wp2_with fail
  refine HS.out.mono ?_
  rintro e w4 ⟨rfl, hb4⟩
  have HB := Lib.hid (HB.out.trans (hb4.mono HB.out.size))
  clear hb4
  go_wp2
  go_ret
  exact ⟨rfl, HB.out⟩
end Go.Proofs.Ytofbioefckdmbaa.Ne
