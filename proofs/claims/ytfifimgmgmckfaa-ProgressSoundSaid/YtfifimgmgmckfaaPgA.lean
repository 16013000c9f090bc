/-
  Layer 11, in the program: validIndex, State, Match, Next, Flying, May, enter, probe, upTo, land. Conditions: as each theorem states.
-/
import Derived.Test.YtfifimgmgmckfaaPgMem
import Derived.Deep.RegionHeld3
import Derived.Deep.RegionWith
import Derived.Deep.RegionLaw
namespace Go.Proofs.Ytfifimgmgmckfaa.Pg
open Go.RowKit Go.Proofs.Ytfifimgmgmckfaa.Qu Go.Proofs.Ytfifimgmgmckfaa.Fld
set_option linter.unusedVariables false

theorem validIndex_any (n : Int) (w : World) : Calls Try.prog 20 #[.int .i64 n] w fun e w' => e = .returned (.bool (okI n)) ∧ w = w' := by
  have he : okI n = (decide (0 ≤ n) && decide (n < 1099511627776)) := rfl
  by_cases h0 : 0 ≤ n
  · by_cases h1 : n < 1099511627776
    · rw [he, decide_eq_true h0, decide_eq_true h1]
      clear he
      go_enter Try.func20, Try.ntmps20
      go_wp2
      go_ret
      exact ⟨rfl, rfl⟩
    · have h2 : decide (n < 1099511627776) = false := decide_eq_false h1
      rw [he, decide_eq_true h0, h2]
      clear he
      go_enter Try.func20, Try.ntmps20
      go_wp2
      go_ret
      exact ⟨rfl, rfl⟩
  · have h2 : decide (0 ≤ n) = false := decide_eq_false h0
    rw [he, h2]
    clear he
    go_enter Try.func20, Try.ntmps20
    go_wp2
    go_ret
    exact ⟨rfl, rfl⟩
section
variable (lo g : Nat) (s : St) (A : Option Addr) (cap : Nat) (w : World) (h : ImA lo w g s A cap)
theorem state_any (h : ImA lo w g s A cap) : Calls Try.prog 19 #[.pointer (some ⟨g, 0, none⟩)] w fun e w' => e = .returned (.int .i64 s.state) ∧ w = w' := by
  obtain ⟨c0, c1, c2, c3, c4, c5, c6⟩ := h.cells
  clear h
  go_enter Try.func19, Try.ntmps19
  go_wp2
  go_ret
  exact ⟨rfl, rfl⟩
theorem match_any (h : ImA lo w g s A cap) : Calls Try.prog 9 #[.pointer (some ⟨g, 0, none⟩)] w fun e w' => e = .returned (.int .i64 s.mt) ∧ w = w' := by
  obtain ⟨c0, c1, c2, c3, c4, c5, c6⟩ := h.cells
  clear h
  go_enter Try.func9, Try.ntmps9
  go_wp2
  go_ret
  exact ⟨rfl, rfl⟩
theorem next_any (h : ImA lo w g s A cap) : Calls Try.prog 16 #[.pointer (some ⟨g, 0, none⟩)] w fun e w' => e = .returned (.int .i64 s.nx) ∧ w = w' := by
  obtain ⟨c0, c1, c2, c3, c4, c5, c6⟩ := h.cells
  clear h
  go_enter Try.func16, Try.ntmps16
  go_wp2
  go_ret
  exact ⟨rfl, rfl⟩
theorem flying_any (h : ImA lo w g s A cap) : Calls Try.prog 17 #[.pointer (some ⟨g, 0, none⟩)] w fun e w' => e = .returned (.int .i64 s.fl.length) ∧ w = w' := by
  obtain ⟨c0, c1, c2, c3, c4, c5, c6⟩ := h.cells
  clear h
  go_enter Try.func17, Try.ntmps17
  go_wp2
  go_ret
  exact ⟨rfl, rfl⟩
set_option maxHeartbeats 800000 in
theorem may_any (h : ImA lo w g s A cap) : Calls Try.prog 18 #[.pointer (some ⟨g, 0, none⟩)] w fun e w' => e = .returned (.bool (may s)) ∧ Below w.heap.size w w' := by
  obtain ⟨c0, c1, c2, c3, c4, c5, c6⟩ := h.cells
  clear h
  by_cases h0 : s.state = 0
  · have HR := Lib.hid (show may s = !s.wt by unfold may; rw [if_pos h0])
    have q0 : (s.state == 0) = true := by simp [h0]
    clear h0
    go_enter Try.func18, Try.ntmps18
    go_wp2
    go_ret
    exact ⟨by rw [HR.out]; rfl, Below.refl _ _⟩
  · have q0 : (s.state == 0) = false := by simp [h0]
    by_cases h1 : s.state = 1
    · have HR := Lib.hid (show may s = decide ((s.fl.length : Int) < s.win) by unfold may; rw [if_neg h0, if_pos h1])
      have q1 : (s.state == 1) = true := by simp [h1]
      clear h0 h1
      go_enter Try.func18, Try.ntmps18
      go_wp2_with fail
      go_quiet (fail)
      go_wp2
      go_ret
      exact ⟨by rw [HR.out]; rfl, below_dr _ _⟩
    · have HR := Lib.hid (show may s = false by unfold may; rw [if_neg h0, if_neg h1])
      have q1 : (s.state == 1) = false := by simp [h1]
      clear h0 h1
      go_enter Try.func18, Try.ntmps18
      go_wp2
      go_ret
      exact ⟨by rw [HR.out]; rfl, Below.refl _ _⟩
theorem enter_any (t : Int) (h : ImA lo w g s A cap) : Calls Try.prog 21 #[.pointer (some ⟨g, 0, none⟩), .int .i64 t] w fun e w' => e = .returned (.tuple #[]) ∧ Did lo w w' g (enterS s t) := by
  have h1 := h.set 0 (.int .i64 t) (s' := { s with state := t }) rfl (by omega) rfl
  have h2 := h1.set 4 (.bool false) (s' := { s with state := t, wt := false }) rfl (by omega) rfl
  have h3 : ImA lo (((w.setCell ⟨g, 0, none⟩ (.int .i64 t)).setCell ⟨g, 4, none⟩ (.bool false)).setCell ⟨g, 5, none⟩ (.slice none 0 0)) g { s with state := t, wt := false, fl := [] } none 0 := h2.put (s' := { s with state := t, wt := false, fl := [] }) (Fly.emp _ _ _) rfl
  have h4 := h3.set 6 (.int .i64 0) (s' := enterS s t) rfl (by omega) rfl
  have HD := Lib.hid (show Did lo w _ g (enterS s t) from ⟨⟨_, _, h4⟩, ((((Below.refl lo w).setCell (p := ⟨g, 0, none⟩) h.base _).setCell (p := ⟨g, 4, none⟩) h.base _).setCell (p := ⟨g, 5, none⟩) h.base _).setCell (p := ⟨g, 6, none⟩) h.base _, h.size⟩)
  obtain ⟨c0, c1, c2, c3, c4, c5, c6⟩ := h.cells
  have f0 := Blk.free h.blk 0
  have f4 := Blk.free h1.blk 4
  have f5 := Blk.free h2.blk 5
  have f6 := Blk.free h3.blk 6
  clear h h1 h2 h3 h4
  go_enter Try.func21, Try.ntmps21
  go_wp2_with fail
  all_goals
    go_end0
    exact ⟨rfl, HD.out⟩
theorem probe_any (n : Int) (h : ImA lo w g s A cap) : Calls Try.prog 24 #[.pointer (some ⟨g, 0, none⟩), .int .i64 n] w fun e w' => e = .returned (.tuple #[]) ∧ Did lo w w' g (probeS s n) := by
  have HE := Lib.hid (enter_any lo g s A cap w 0 h)
  clear h
  go_enter Try.func24, Try.ntmps24
  go_wp2_with fail
  refine HE.out.mono ?_
  rintro e w1 ⟨rfl, hd⟩
  obtain ⟨⟨A1, cap1, h1⟩, hb, hs⟩ := hd
  have h2 := h1.set 2 (.int .i64 n) (s' := probeS s n) rfl (by omega) rfl
  have HD := Lib.hid (show Did lo w _ g (probeS s n) from ⟨⟨_, _, h2⟩, hb.setCell (p := ⟨g, 2, none⟩) h1.base _, hs⟩)
  obtain ⟨c0, c1, c2, c3, c4, c5, c6⟩ := h1.cells
  have f2 := Blk.free h1.blk 2
  clear h1 h2 hb
  go_wp2
  go_end0
  exact ⟨rfl, HD.out⟩
end
end Go.Proofs.Ytfifimgmgmckfaa.Pg
