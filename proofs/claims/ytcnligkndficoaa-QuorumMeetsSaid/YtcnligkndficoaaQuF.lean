/-
  Layer 9, in the program: may. Conditions: the lists can be read.
-/
import Derived.Test.YtcnligkndficoaaQuF0
import Derived.Deep.RegionHeld3
import Derived.Deep.RegionWith
import Derived.Deep.CutRange
import Derived.Deep.CutBlock
namespace Go.Proofs.Ytcnligkndficoaa.Qu
open Go.RowKit Go.Proofs.Ytcnligkndficoaa.Fld
set_option linter.unusedVariables false

def mayG (v l : Bool) (n : Nat) (kind : Int) : Bool := if kind = 1 then !v && !l else if kind = 2 then l else l || (v && decide (1 < n))
theorem containsI_quiet (A : Option Addr) (n cap : Nat) (l : List Int) (x : Int) (w : World) (k : Nat) (hr : RdI w A n l) : Calls Try.prog 37 #[.slice A n cap, .int .i64 x] (w.drewN k) fun e w'' => e = .returned (.bool (hasI l x)) ∧ ∃ m, w'' = w.drewN m :=
  (containsI_any A n cap l x (w.drewN k) (RdI.below hr (below_dr w k))).mono fun _ _ ⟨he, hw⟩ => ⟨he, k, hw.symm⟩
set_option maxRecDepth 100000 in
set_option maxHeartbeats 3200000 in
theorem may_any (VA : Option Addr) (vn vc : Nat) (vs : List Int) (LA : Option Addr) (ln lc : Nat) (ls : List Int) (kind x : Int) (w : World) (hv : RdI w VA vn vs) (hl : RdI w LA ln ls) :
    Calls Try.prog 31 #[grpV VA vn vc LA ln lc, .int .i64 kind, .int .i64 x] w fun e w' => e = .returned (.bool (mayG (hasI vs x) (hasI ls x) vn kind)) ∧ Below w.heap.size w w' := by
  have hb := alloc_below w (.cells #[.slice VA vn vc, .slice LA ln lc] 24)
  have HB := Lib.hid hb
  have HK := Lib.hid (Blk.new w #[.slice VA vn vc, .slice LA ln lc] 24)
  generalize hwa : w.alloc (.cells #[.slice VA vn vc, .slice LA ln lc] 24) = wa at *
  have HV := Lib.hid (fun k => containsI_quiet VA vn vc vs x wa k (RdI.below hv hb))
  have HL := Lib.hid (fun k => containsI_quiet LA ln lc ls x wa k (RdI.below hl hb))
  have HM := Lib.hid (show ∀ v l, mayG v l vn kind = if kind = 1 then !v && !l else if kind = 2 then l else l || (v && decide (1 < vn)) from fun _ _ => rfl)
  have hmv := hv.2.1
  unfold maxLen at hmv
  clear hv hl hb
  have HD := Lib.hid (fun k => (below_dr wa k))
  have HC0 := Lib.hid (fun k => ((HK.out.below (below_dr wa k)).cell 0 (.slice VA vn vc) rfl))
  have c0 := HK.out.cell 0 (.slice VA vn vc) rfl
  have c1 := HK.out.cell 1 (.slice LA ln lc) rfl
  unfold grpV
  generalize hasI vs x = bv at *
  generalize hasI ls x = bl at *
  have hn0 : ∀ k, Below w.heap.size w (wa.drewN k) := fun k => HB.out.trans ((HD.out k).mono HB.out.size)
  have HN0 := Lib.hid hn0
  clear hn0
  by_cases k1 : kind = 1
  · subst k1
    cases bv <;> cases bl
    all_goals
      go_enter Try.func31, Try.ntmps31
      go_wp2_with fail
      try rw [hwa]
      go_quiet (first | (go_at_call_of 37 (Value.slice VA vn vc); exact HV.out _) | (go_at_call_of 37 (Value.slice LA ln lc); exact HL.out _))
      clear c0 c1
      go_wp2
      go_ret
      exact ⟨by rw [HM.out]; rfl, HN0.out _⟩
  · by_cases k2 : kind = 2
    · subst k2
      cases bv <;> cases bl
      all_goals
        go_enter Try.func31, Try.ntmps31
        go_wp2_with fail
        try rw [hwa]
        go_quiet (first | (go_at_call_of 37 (Value.slice VA vn vc); exact HV.out _) | (go_at_call_of 37 (Value.slice LA ln lc); exact HL.out _))
        clear c0 c1
        go_wp2
        go_ret
        exact ⟨by rw [HM.out]; rfl, HN0.out _⟩
    · have q1 : (kind == 1) = false := by simpa using k1
      have q2 : (kind == 2) = false := by simpa using k2
      have HM2 := Lib.hid (show ∀ v l, mayG v l vn kind = (l || (v && decide (1 < vn))) from fun v l => by rw [HM.out, if_neg k1, if_neg k2])
      cases bv <;> cases bl
      all_goals
        go_enter Try.func31, Try.ntmps31
        go_wp2_with fail
        try rw [hwa]
        go_quiet (first | (go_at_call_of 37 (Value.slice VA vn vc); exact HV.out _) | (go_at_call_of 37 (Value.slice LA ln lc); exact HL.out _))
        clear c0 c1
        have c0 := HC0.out nq
        go_wp2
        go_ret
        exact ⟨by rw [HM2.out]; first | rfl | (simp; done) | (simp; omega), HN0.out _⟩
end Go.Proofs.Ytcnligkndficoaa.Qu
