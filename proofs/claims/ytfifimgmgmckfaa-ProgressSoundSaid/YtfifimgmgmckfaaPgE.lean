/-
  Layer 11, in the program: Refused; the document's New. Conditions: as each theorem states.
-/
import Derived.Test.YtfifimgmgmckfaaPgD
namespace Go.Proofs.Ytfifimgmgmckfaa.Pg
open Go.RowKit Go.Proofs.Ytfifimgmgmckfaa.Qu Go.Proofs.Ytfifimgmgmckfaa.Fld
set_option linter.unusedVariables false

section
variable (lo g : Nat) (s : St) (A : Option Addr) (cap : Nat) (w : World)
set_option maxRecDepth 100000 in
set_option maxHeartbeats 3200000 in
theorem refused_any (at' hint : Int) (h : ImA lo w g s A cap) (hok : s.Ok) : Calls Try.prog 12 #[.pointer (some ⟨g, 0, none⟩), .int .i64 at', .int .i64 hint] w fun e w' => e = .returned (.bool (refB s at')) ∧ Did lo w w' g (refS s at' hint) := by
  obtain ⟨c0, c1, c2, c3, c4, c5, c6⟩ := h.cells
  have k2 := hok.m0
  have k3 := hok.mn
  have k4 := hok.nM
  have HP := Lib.hid (fun n => probe_any lo g s A cap w n h)
  have HQ := Lib.hid (Did.quiet h (Below.refl _ _))
  clear hok h
  by_cases h0 : s.state = 0
  · have q0 : (s.state == 0) = true := by simp [h0]
    have q1 : (s.state == 1) = false := by simp [h0]
    by_cases ha : at' = s.nx - 1
    · have q2 : (at' == s.nx - 1) = true := by simp [ha]
      have HB := Lib.hid (show refB s at' = true by unfold refB; simp [h0, ha])
      have HS := Lib.hid (fun n w1 (hd : Did lo w w1 g (probeS s n)) (hn : n = max (min at' (hintOf hint + 1)) (s.mt + 1)) => show Did lo w w1 g (refS s at' hint) by unfold refS; rw [if_pos ⟨h0, ha⟩, ← hn]; exact hd)
      have a1 : at' < 1099511627776 := by omega
      have a2 : 0 ≤ at' := by omega
      clear h0 ha
      by_cases b1 : hint < 0
      · have d1 : decide (hint < 0) = true := decide_eq_true b1
        have HK := Lib.hid (show hintOf hint = 0 by unfold hintOf; rw [if_pos (.inl b1)])
        clear b1
        go_enter Try.func12, Try.ntmps12
        go_wp2_with (go_at_call 24; refine (HP.out _).mono ?_; rintro e w1 ⟨rfl, hd⟩; have HD := Lib.hid hd; clear hd)
        all_goals
          go_ret
          exact ⟨by rw [HB.out]; rfl, HS.out _ _ HD.out (by have := HK.out; omega)⟩
      have d1 : decide (hint < 0) = false := decide_eq_false b1
      by_cases b2 : 1099511627776 < hint
      · have d2 : decide (1099511627776 < hint) = true := decide_eq_true b2
        have HK := Lib.hid (show hintOf hint = 0 by unfold hintOf; rw [if_pos (.inr b2)])
        clear b1 b2
        go_enter Try.func12, Try.ntmps12
        go_wp2_with (go_at_call 24; refine (HP.out _).mono ?_; rintro e w1 ⟨rfl, hd⟩; have HD := Lib.hid hd; clear hd)
        all_goals
          go_ret
          exact ⟨by rw [HB.out]; rfl, HS.out _ _ HD.out (by have := HK.out; omega)⟩
      have d2 : decide (1099511627776 < hint) = false := decide_eq_false b2
      have HK := Lib.hid (show hintOf hint = hint by unfold hintOf; rw [if_neg (by omega)])
      have j1 : IntKind.i64.wrap (hint + 1) = hint + 1 := IntWalk.i64_in _ (by omega)
      go_enter Try.func12, Try.ntmps12
      go_wp2_with (go_at_call 24; refine (HP.out _).mono ?_; rintro e w1 ⟨rfl, hd⟩; have HD := Lib.hid hd; clear hd)
      all_goals
        go_ret
        exact ⟨by rw [HB.out]; rfl, HS.out _ _ HD.out (by have := HK.out; omega)⟩
    · have q2 : (at' == s.nx - 1) = false := by simp [ha]
      have HB := Lib.hid (show refB s at' = false by unfold refB; simp [h0, ha])
      have HS := Lib.hid (show refS s at' hint = s by unfold refS; rw [if_neg (fun hh => ha hh.2), if_neg (fun hh => by omega)])
      clear h0 ha
      go_enter Try.func12, Try.ntmps12
      go_wp2_with fail
      go_ret
      exact ⟨by rw [HB.out]; rfl, by rw [HS.out]; exact HQ.out⟩
  have q0 : (s.state == 0) = false := by simp [h0]
  by_cases h1 : s.state = 1
  · have q1 : (s.state == 1) = true := by simp [h1]
    by_cases ha : s.mt < at'
    · have d1 : decide (s.mt < at') = true := decide_eq_true ha
      have HB := Lib.hid (show refB s at' = true by unfold refB; simp [h1, ha])
      have HS := Lib.hid (show refS s at' hint = probeS s (s.mt + 1) by unfold refS; rw [if_neg (fun hh => h0 hh.1), if_pos ⟨h1, ha⟩])
      clear h0 h1 ha
      go_enter Try.func12, Try.ntmps12
      go_wp2_with (go_at_call 24; refine (HP.out _).mono ?_; rintro e w1 ⟨rfl, hd⟩; have HD := Lib.hid hd; clear hd)
      go_ret
      exact ⟨by rw [HB.out]; rfl, by rw [HS.out]; exact HD.out⟩
    · have d1 : decide (s.mt < at') = false := decide_eq_false ha
      have HB := Lib.hid (show refB s at' = false by unfold refB; simp [h1, ha])
      have HS := Lib.hid (show refS s at' hint = s by unfold refS; rw [if_neg (fun hh => h0 hh.1), if_neg (fun hh => ha hh.2)])
      clear h0 h1 ha
      go_enter Try.func12, Try.ntmps12
      go_wp2_with fail
      go_ret
      exact ⟨by rw [HB.out]; rfl, by rw [HS.out]; exact HQ.out⟩
  · have q1 : (s.state == 1) = false := by simp [h1]
    have HB := Lib.hid (show refB s at' = false by unfold refB; simp [h0, h1])
    have HS := Lib.hid (show refS s at' hint = s by unfold refS; rw [if_neg (fun hh => h0 hh.1), if_neg (fun hh => h1 hh.1)])
    clear h0 h1
    go_enter Try.func12, Try.ntmps12
    go_wp2_with fail
    go_ret
    exact ⟨by rw [HB.out]; rfl, by rw [HS.out]; exact HQ.out⟩
end
def rcode (next win : Int) : Int := if okNew next win = true then 0 else 1
set_option maxRecDepth 100000 in
set_option maxHeartbeats 1600000 in
/-- the document's New: an error, or none; what it makes is new -/
theorem rnew_any (next win : Int) (w : World) : Calls Try.prog 8 #[.int .i64 next, .int .i64 win] w fun e w' => (∃ v, e = .returned (.tuple #[v, .int .i64 (rcode next win)])) ∧ Below w.heap.size w w' := by
  have HN := Lib.hid (okNew_iff next win)
  have HB := Lib.hid (alloc_below w)
  by_cases h1 : next < 1
  · have d1 : decide (next < 1) = true := decide_eq_true h1
    have HR := Lib.hid (show rcode next win = 1 from if_neg (fun h => by have := HN.out.1 h; omega))
    clear h1
    go_enter Try.func8, Try.ntmps8
    go_wp2
    go_ret2
    exact ⟨⟨_, by rw [HR.out]; rfl⟩, Below.refl _ _⟩
  have d1 : decide (next < 1) = false := decide_eq_false h1
  by_cases h2 : 1099511627776 < next
  · have d2 : decide (1099511627776 < next) = true := decide_eq_true h2
    have HR := Lib.hid (show rcode next win = 1 from if_neg (fun h => by have := HN.out.1 h; omega))
    clear h1 h2
    go_enter Try.func8, Try.ntmps8
    go_wp2
    go_ret2
    exact ⟨⟨_, by rw [HR.out]; rfl⟩, Below.refl _ _⟩
  have d2 : decide (1099511627776 < next) = false := decide_eq_false h2
  by_cases h3 : win < 1
  · have d3 : decide (win < 1) = true := decide_eq_true h3
    have HR := Lib.hid (show rcode next win = 1 from if_neg (fun h => by have := HN.out.1 h; omega))
    clear h1 h2 h3
    go_enter Try.func8, Try.ntmps8
    go_wp2
    go_ret2
    exact ⟨⟨_, by rw [HR.out]; rfl⟩, Below.refl _ _⟩
  have d3 : decide (win < 1) = false := decide_eq_false h3
  by_cases h4 : 64 < win
  · have d4 : decide (64 < win) = true := decide_eq_true h4
    have HR := Lib.hid (show rcode next win = 1 from if_neg (fun h => by have := HN.out.1 h; omega))
    clear h1 h2 h3 h4
    go_enter Try.func8, Try.ntmps8
    go_wp2
    go_ret2
    exact ⟨⟨_, by rw [HR.out]; rfl⟩, Below.refl _ _⟩
  have d4 : decide (64 < win) = false := decide_eq_false h4
  have HR := Lib.hid (show rcode next win = 0 from if_pos (HN.out.2 (by omega)))
  clear h1 h2 h3 h4
  go_enter Try.func8, Try.ntmps8
  go_wp2
  go_ret2
  exact ⟨⟨_, by rw [HR.out]; rfl⟩, HB.out _⟩
end Go.Proofs.Ytfifimgmgmckfaa.Pg
