/-
  Layer 12, the law RaftFollows: whether a Who is more than a test should have. No condition.
-/
import Derived.Test.YtjadfpcipicckaaGreatJRfL
namespace Go.Proofs.YtjadfpcipicckaaGreat.Rf
open Go.RowKit Go.Shelf Go.Proofs.YtjadfpcipicckaaGreat.Fld
open Go.Proofs.YtjadfpcipicckaaGreat.Qu (RdI)
set_option linter.unusedVariables false

/-- a Who's cells -/
def whoC (id hT hV sI sT : Int) (VA : Option Addr) (vn vc : Nat) (LA : Option Addr) (ln lc : Nat) (DA : Option Addr) (dn dc : Nat) (EA : Option Addr) (en ec : Nat) (pat win : Int) : Array Value := #[.int .i64 id, .int .i64 hT, .int .i64 hV, .int .i64 sI, .int .i64 sT, .slice VA vn vc, .slice LA ln lc, .slice DA dn dc, .slice EA en ec, .int .i64 pat, .int .i64 win]
def muchB (en dn : Nat) : Bool := decide (300 < en) || decide (100000 < dn)
set_option maxRecDepth 100000 in
set_option maxHeartbeats 1600000 in
theorem much_any (id hT hV sI sT : Int) (VA : Option Addr) (vn vc : Nat) (LA : Option Addr) (ln lc : Nat) (DA : Option Addr) (dn dc : Nat) (EA : Option Addr) (en ec : Nat) (pat win : Int) (w : World) :
    Calls Tryz.prog 5 #[.agg (whoC id hT hV sI sT VA vn vc LA ln lc DA dn dc EA en ec pat win), .slice none 0 0] w fun e w' => e = .returned (.bool (muchB en dn)) ∧ Below w.heap.size w w' := by
  have hal := Rg.alloc_below' w (.cells (whoC id hT hV sI sT VA vn vc LA ln lc DA dn dc EA en ec pat win) 33)
  have hk := Rg.Blk.new w (whoC id hT hV sI sT VA vn vc LA ln lc DA dn dc EA en ec pat win) 33
  have HAL := Lib.hid hal
  have k7 := hk.cell 7 (.slice DA dn dc) rfl
  have k8 := hk.cell 8 (.slice EA en ec) rfl
  unfold muchB
  unfold whoC at *
  clear hal hk
  by_cases h1 : 300 < en
  · have hq : (300 : Int) < (en : Int) := by omega
    have HQ := Lib.hid (show (decide (300 < en) || decide (100000 < dn)) = true by simp [h1])
    rw [HQ.out]
    clear h1
    go_enter Tryz.func5, Tryz.ntmps5
    go_wp2
    go_ret
    exact ⟨rfl, HAL.out⟩
  by_cases h2 : 100000 < dn
  · have hq : (100000 : Int) < (dn : Int) := by omega
    have hq1 : ¬ (300 : Int) < (en : Int) := by omega
    have HQ := Lib.hid (show (decide (300 < en) || decide (100000 < dn)) = true by simp [h2])
    rw [HQ.out]
    clear h1 h2
    go_enter Tryz.func5, Tryz.ntmps5
    go_wp2
    go_ret
    exact ⟨rfl, HAL.out⟩
  have hq : ¬ (100000 : Int) < (dn : Int) := by omega
  have hq1 : ¬ (300 : Int) < (en : Int) := by omega
  have HQ := Lib.hid (show (decide (300 < en) || decide (100000 < dn)) = false by simp; omega)
  rw [HQ.out]
  clear h1 h2
  go_enter Tryz.func5, Tryz.ntmps5
  go_wp2
  go_loop [5] (fun i => i = .int .i64 0) (fun _ => 0)
  case atStart => rfl
  case round =>
    obtain rfl := hrel
    go_wp2
    go_ret
    exact ⟨rfl, HAL.out⟩
end Go.Proofs.YtjadfpcipicckaaGreat.Rf
