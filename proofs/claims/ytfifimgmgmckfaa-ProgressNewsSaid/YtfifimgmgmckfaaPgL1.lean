/-
  Layer 11, the laws ProgressNews and ProgressWaits: their walks. No condition.
-/
import Derived.Test.YtfifimgmgmckfaaPgE
namespace Go.Proofs.Ytfifimgmgmckfaa.Pg
open Go.RowKit Go.Proofs.Ytfifimgmgmckfaa.Qu Go.Proofs.Ytfifimgmgmckfaa.Fld
set_option linter.unusedVariables false

set_option maxRecDepth 100000 in
set_option maxHeartbeats 1600000 in
theorem news_walk (next win : Int) (w : World) : Calls Try.prog 3 #[.int .i64 next, .int .i64 win] w fun e w' => e = .returned (.bool true) ∧ Below w.heap.size w w' := by
  have HR := Lib.hid (fun W => rnew_any next win W)
  have H1 := Lib.hid (fun W => new_ok W 1 1 rfl)
  cases hn : okNew next win with
  | false =>
    have HN := Lib.hid (new_bad w next win hn)
    have hr : rcode next win = 1 := by unfold rcode; rw [hn]; rfl
    rw [hr] at HR
    clear hn hr
    go_enter Try.func3, Try.ntmps3
    go_wp2_with fail
    refine HN.out.mono ?_
    rintro e w1 ⟨rfl, rfl⟩
    go_wp2_with fail
    refine (HR.out _).mono ?_
    rintro e w2 ⟨⟨v, rfl⟩, hb⟩
    have HB := Lib.hid hb
    clear hb
    go_wp2_with fail
    refine (H1.out _).mono ?_
    rintro e w3 ⟨rfl, _, hb⟩
    have HB2 := Lib.hid (HB.out.trans (hb.mono HB.out.size))
    clear hb
    go_wp2
    go_ret
    exact ⟨rfl, HB2.out⟩
  | true =>
    have HN := Lib.hid (new_ok w next win hn)
    have hr : rcode next win = 0 := by unfold rcode; rw [hn]; rfl
    rw [hr] at HR
    clear hn hr
    go_enter Try.func3, Try.ntmps3
    go_wp2_with fail
    refine HN.out.mono ?_
    rintro e w1 ⟨rfl, _, hb⟩
    have HB0 := Lib.hid hb
    clear hb
    go_wp2_with fail
    refine (HR.out _).mono ?_
    rintro e w2 ⟨⟨v, rfl⟩, hb⟩
    have HB := Lib.hid (HB0.out.trans (hb.mono HB0.out.size))
    clear hb
    go_wp2_with fail
    refine (H1.out _).mono ?_
    rintro e w3 ⟨rfl, _, hb⟩
    have HB2 := Lib.hid (HB.out.trans (hb.mono HB.out.size))
    clear hb
    go_wp2
    go_ret
    exact ⟨rfl, HB2.out⟩
end Go.Proofs.Ytfifimgmgmckfaa.Pg
