/-
  Layer 10, the document's own: SameBallots where the lists are the same. Conditions: the lists can be read.
-/
import Derived.Test.YtjajgjpkiofhmaaElE
namespace Go.Proofs.Ytjajgjpkiofhmaa.El
open Go.RowKit Go.Proofs.Ytjajgjpkiofhmaa.Qu Go.Proofs.Ytjajgjpkiofhmaa.Fld
set_option linter.unusedVariables false

set_option maxRecDepth 100000 in
set_option maxHeartbeats 3200000 in
theorem ballots_same (A : Option Addr) (n cap : Nat) (xs : List Bal) (B : Option Addr) (cap' : Nat) (w : World) (hr : RdB w A n xs) (hr' : RdB w B n xs) : Calls Try.prog 13 #[.slice A n cap, .slice B n cap'] w fun e w' => e = .returned (.bool true) ∧ Below w.heap.size w w' := by
  have HR := Lib.hid hr
  have HS := Lib.hid hr'
  have hm := hr.2.1
  unfold maxLen at hm
  clear hr hr'
  go_enter Try.func13, Try.ntmps13
  go_wp2
  go_loopw [5] (fun i wr => ∃ k : Nat, k ≤ n ∧ i = .int .i64 k ∧ Below w.heap.size w wr) (fun i _ => n - (intOf i).toNat)
  case atStart => exact ⟨0, Nat.zero_le _, rfl, Below.refl _ _⟩
  case round =>
    obtain ⟨k, hk, rfl, hst⟩ := hrel
    have HST := Lib.hid hst
    clear hst
    by_cases hlt : k < n
    · obtain ⟨b, off, rfl, q0, q1, q2, q3, q4, q5, q6⟩ := (HR.out.below HST.out).elem k hlt
      obtain ⟨b', off', rfl, p0, p1, p2, p3, p4, p5, p6⟩ := (HS.out.below HST.out).elem k hlt
      generalize xs.getD k b0 = e at *
      obtain ⟨kind, frm, to, term, idx, lt, yes⟩ := e
      simp only at q0 q1 q2 q3 q4 q5 q6 p0 p1 p2 p3 p4 p5 p6
      have k0 : (0 : Int) ≤ (k : Int) := by omega
      have k1 : (k : Int) < (n : Int) := by omega
      go_wp2_with fail
      go_quiet (fail)
      go_wp2
      go_roundw
      case rel => exact ⟨k + 1, by omega, by go_num, HST.out.trans ((below_dr wr _).mono HST.out.size)⟩
      case measure => simp [intOf]; omega
    · obtain rfl : k = n := by omega
      go_wp2
      go_ret
      exact ⟨rfl, HST.out⟩
end Go.Proofs.Ytjajgjpkiofhmaa.El
