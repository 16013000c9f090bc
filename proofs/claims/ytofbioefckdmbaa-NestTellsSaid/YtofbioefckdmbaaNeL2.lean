/-
  Layer 14, that the law NestTells answers true. Conditions: the limits and the sales can be read.
-/
import Derived.Test.YtofbioefckdmbaaNeAw
namespace Go.Proofs.Ytofbioefckdmbaa.Ne
open Go.RowKit Go.Proofs.Ytofbioefckdmbaa.Qu Go.Proofs.Ytofbioefckdmbaa.Fld
set_option linter.unusedVariables false

set_option maxRecDepth 100000 in
set_option maxHeartbeats 1600000 in
theorem tells_walk (A : Option Addr) (n cap : Nat) (L : List Int) (B : Option Addr) (m cap2 : Nat) (S : List Int) (c : Int) (w : World) (ha : RdI w A n L) (hb : RdI w B m S) :
    Calls Try.prog 4 #[.slice A n cap, .slice B m cap2, .int .i64 c] w fun e w' => e = .returned (.bool true) ∧ Below w.heap.size w w' := by
  have HAW := Lib.hid (awake_any w)
  have H1 := Lib.hid (fun (W : World) (hW : Below w.heap.size w W) => left_any A n cap L B m cap2 S c W (ha.below hW) (hb.below hW))
  have H2 := Lib.hid (fun (W : World) (hW : Below w.heap.size w W) => rleft_any A n cap L B m cap2 S c W (ha.below hW) (hb.below hW))
  have H3 := Lib.hid (fun (W : World) (hW : Below w.heap.size w W) => right_any A n cap L B m cap2 S W (ha.below hW) (hb.below hW))
  have H4 := Lib.hid (fun (W : World) (hW : Below w.heap.size w W) => rright_any A n cap L B m cap2 S W (ha.below hW) (hb.below hW))
  unfold Tup at H1 H2
  clear ha hb
  generalize lftV L S c = V at *
  generalize lftE L S c = E at *
  generalize rightB L S = R at *
  have q1 : (R == R) = true := by simp
  have q2 : (V == V) = true := by simp
  have q3 : (E == E) = true := by simp
  go_enter Try.func4, Try.ntmps4
  go_wp2_with fail
  refine HAW.out.mono ?_
  rintro e w1 ⟨rfl, hb1⟩
  have HB := Lib.hid hb1
  clear hb1
  go_wp2_with fail
  refine (H1.out _ HB.out).mono ?_
  rintro e w2 ⟨rfl, hb2⟩
  have HB := Lib.hid (HB.out.trans (hb2.mono HB.out.size))
  clear hb2
  go_wp2_with fail
  refine (H2.out _ HB.out).mono ?_
  rintro e w3 ⟨rfl, hb3⟩
  have HB := Lib.hid (HB.out.trans (hb3.mono HB.out.size))
  clear hb3
  go_wp2_with fail
  refine (H3.out _ HB.out).mono ?_
  rintro e w4 ⟨rfl, hb4⟩
  have HB := Lib.hid (HB.out.trans (hb4.mono HB.out.size))
  clear hb4
  go_wp2_with fail
  refine (H4.out _ HB.out).mono ?_
  rintro e w5 ⟨rfl, hb5⟩
  have HB := Lib.hid (HB.out.trans (hb5.mono HB.out.size))
  clear hb5
  go_wp2
  go_ret
  exact ⟨rfl, HB.out⟩
end Go.Proofs.Ytofbioefckdmbaa.Ne
