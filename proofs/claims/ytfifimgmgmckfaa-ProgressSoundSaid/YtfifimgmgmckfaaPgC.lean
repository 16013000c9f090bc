/-
  Layer 11, in the program: Sent, Acked, Refused, Beat, Install, Over, New. Conditions: as each theorem states.
-/
import Derived.Test.YtfifimgmgmckfaaPgB
import Derived.StillTailTactics
namespace Go.Proofs.Ytfifimgmgmckfaa.Pg
open Go.RowKit Go.Proofs.Ytfifimgmgmckfaa.Qu Go.Proofs.Ytfifimgmgmckfaa.Fld
set_option linter.unusedVariables false

theorem Did.quiet {lo : Nat} {w w' : World} {g : Nat} {s : St} {A : Option Addr} {cap : Nat} (h : ImA lo w g s A cap) (hb : Below w.heap.size w w') : Did lo w w' g s := Did.same ⟨A, cap, h⟩ hb
theorem Did.after {lo : Nat} {w w1 w' : World} {g : Nat} {s' : St} (hb : Below w.heap.size w w1) (hs : lo ≤ w.heap.size) (k : Did lo w1 w' g s') : Did lo w w' g s' := ⟨k.im, (hb.mono hs).trans k.bel, hs⟩
section
variable (lo g : Nat) (s : St) (A : Option Addr) (cap : Nat) (w : World)
set_option maxRecDepth 100000 in
set_option maxHeartbeats 1600000 in
theorem install_any (i : Int) (h : ImA lo w g s A cap) : Calls Try.prog 14 #[.pointer (some ⟨g, 0, none⟩), .int .i64 i] w fun e w' => e = .returned (.int .i64 (insE i)) ∧ Did lo w w' g (insS s i) := by
  have HV := Lib.hid (validIndex_any i w)
  cases hi : okI i with
  | false =>
    have HR := Lib.hid (show insE i = 1 by unfold insE; rw [hi]; rfl)
    have HS := Lib.hid (show insS s i = s by unfold insS; rw [hi]; rfl)
    have HD := Lib.hid (Did.quiet h (Below.refl _ _))
    rw [hi] at HV
    clear h hi
    go_enter Try.func14, Try.ntmps14
    go_wp2_with (go_at_call 20; refine HV.out.mono ?_; rintro e w' ⟨rfl, rfl⟩)
    go_ret
    exact ⟨by rw [HR.out]; rfl, by rw [HS.out]; exact HD.out⟩
  | true =>
    have HR := Lib.hid (show insE i = 0 by unfold insE; rw [hi]; rfl)
    have HS := Lib.hid (show insS s i = { enterS s 2 with sp := i } by unfold insS; rw [hi]; rfl)
    have HE := Lib.hid (enter_any lo g s A cap w 2 h)
    rw [hi] at HV
    clear h hi
    go_enter Try.func14, Try.ntmps14
    go_wp2_with (go_at_call 20; refine HV.out.mono ?_; rintro e w' ⟨rfl, rfl⟩)
    refine HE.out.mono ?_
    rintro e w1 ⟨rfl, hd⟩
    obtain ⟨⟨A1, cap1, h1⟩, hb, hs⟩ := hd
    have h2 := h1.set 6 (.int .i64 i) (s' := { enterS s 2 with sp := i }) rfl (by omega) rfl
    have HD := Lib.hid (show Did lo w _ g { enterS s 2 with sp := i } from ⟨⟨_, _, h2⟩, hb.setCell (p := ⟨g, 6, none⟩) h1.base _, hs⟩)
    obtain ⟨c0, c1, c2, c3, c4, c5, c6⟩ := h1.cells
    have f6 := Blk.free h1.blk 6
    clear h1 h2 hb
    go_wp2
    go_ret
    exact ⟨by rw [HR.out]; rfl, by rw [HS.out]; exact HD.out⟩
set_option maxRecDepth 100000 in
set_option maxHeartbeats 1600000 in
theorem over_any (ok : Bool) (h : ImA lo w g s A cap) (hok : s.Ok) : Calls Try.prog 15 #[.pointer (some ⟨g, 0, none⟩), .bool ok] w fun e w' => e = .returned (.bool (decide (s.state = 2))) ∧ Did lo w w' g (ovS s ok) := by
  obtain ⟨c0, c1, c2, c3, c4, c5, c6⟩ := h.cells
  obtain ⟨k1, k2, k3, k4, k5, k6, k7, k8, k9⟩ := hok
  by_cases h2 : s.state = 2
  · have q2 : (s.state == 2) = true := by simp [h2]
    have HR := Lib.hid (show decide (s.state = 2) = true from decide_eq_true h2)
    cases ok with
    | false =>
      have HS := Lib.hid (show ovS s false = probeS s (s.mt + 1) by unfold ovS ovN; rw [if_pos h2]; rfl)
      have HP := Lib.hid (probe_any lo g s A cap w (s.mt + 1) h)
      clear h h2 k1
      go_enter Try.func15, Try.ntmps15
      go_wp2_with (go_at_call 24; refine HP.out.mono ?_; rintro e w1 ⟨rfl, hd⟩; have HD := Lib.hid hd; clear hd)
      go_ret
      exact ⟨by rw [HR.out]; rfl, by rw [HS.out]; exact HD.out⟩
    | true =>
      by_cases hm : s.mt + 1 < s.sp + 1
      · have HS := Lib.hid (show ovS s true = probeS s (s.sp + 1) by unfold ovS ovN; rw [if_pos h2, if_pos rfl, show max (s.mt + 1) (s.sp + 1) = s.sp + 1 by omega])
        have HP := Lib.hid (probe_any lo g s A cap w (s.sp + 1) h)
        clear h h2 k1
        go_enter Try.func15, Try.ntmps15
        go_wp2_with (go_at_call 24; refine HP.out.mono ?_; rintro e w1 ⟨rfl, hd⟩; have HD := Lib.hid hd; clear hd)
        go_ret
        exact ⟨by rw [HR.out]; rfl, by rw [HS.out]; exact HD.out⟩
      · have HS := Lib.hid (show ovS s true = probeS s (s.mt + 1) by unfold ovS ovN; rw [if_pos h2, if_pos rfl, show max (s.mt + 1) (s.sp + 1) = s.mt + 1 by omega])
        have HP := Lib.hid (probe_any lo g s A cap w (s.mt + 1) h)
        clear h h2 k1
        go_enter Try.func15, Try.ntmps15
        go_wp2_with (go_at_call 24; refine HP.out.mono ?_; rintro e w1 ⟨rfl, hd⟩; have HD := Lib.hid hd; clear hd)
        go_ret
        exact ⟨by rw [HR.out]; rfl, by rw [HS.out]; exact HD.out⟩
  · have q2 : (s.state == 2) = false := by simp [h2]
    have HR := Lib.hid (show decide (s.state = 2) = false from decide_eq_false h2)
    have HS := Lib.hid (show ovS s ok = s by unfold ovS; rw [if_neg h2])
    have HD := Lib.hid (Did.quiet h (Below.refl _ _))
    clear h h2 k1
    go_enter Try.func15, Try.ntmps15
    go_wp2
    go_ret
    exact ⟨by rw [HR.out]; rfl, by rw [HS.out]; exact HD.out⟩
set_option maxRecDepth 100000 in
set_option maxHeartbeats 1600000 in
theorem beat_any (h : ImA lo w g s A cap) (hok : s.Ok) : Calls Try.prog 13 #[.pointer (some ⟨g, 0, none⟩)] w fun e w' => e = .returned (.tuple #[]) ∧ Did lo w w' g (beatS s) := by
  obtain ⟨c0, c1, c2, c3, c4, c5, c6⟩ := h.cells
  obtain ⟨k1, k2, k3, k4, k5, k6, k7, k8, k9⟩ := hok
  by_cases h0 : s.state = 0
  · have q0 : (s.state == 0) = true := by simp [h0]
    have HS := Lib.hid (show beatS s = { s with wt := false } by unfold beatS; rw [if_pos h0])
    have h1 := h.set 4 (.bool false) (s' := { s with wt := false }) rfl (by omega) rfl
    have HD := Lib.hid (show Did lo w _ g { s with wt := false } from ⟨⟨_, _, h1⟩, (Below.refl lo w).setCell (p := ⟨g, 4, none⟩) h.base _, h.size⟩)
    have f4 := Blk.free h.blk 4
    clear h h0 h1 k1
    go_enter Try.func13, Try.ntmps13
    go_wp2
    go_end0
    exact ⟨rfl, by rw [HS.out]; exact HD.out⟩
  have q0 : (s.state == 0) = false := by simp [h0]
  by_cases h1 : s.state = 1
  · have q1 : (s.state == 1) = true := by simp [h1]
    by_cases hf : (s.fl.length : Int) = s.win
    · have q3 : ((s.fl.length : Int) == s.win) = true := by simp [hf]
      have HS := Lib.hid (show beatS s = { s with fl := s.fl.drop 1 } by unfold beatS; rw [if_neg h0, if_pos ⟨h1, hf⟩])
      have HL := Lib.hid (fun W (hW : Below w.heap.size w W) => land_any lo g s A cap W 1 (by omega) (h.below hW))
      have HZ := Lib.hid h.size
      clear h h0 h1 k1 hf
      go_enter Try.func13, Try.ntmps13
      go_wp2_with fail
      go_quiet (fail)
      go_wp2_with fail
      refine (HL.out _ (below_dr w _)).mono ?_
      rintro e w1 ⟨rfl, hd⟩
      have HD := Lib.hid (Did.after (below_dr w _) HZ.out hd)
      clear hd
      go_wp2
      go_end0
      exact ⟨rfl, by rw [HS.out]; exact HD.out⟩
    · have q3 : ((s.fl.length : Int) == s.win) = false := by simp [hf]
      have HS := Lib.hid (show beatS s = s by unfold beatS; rw [if_neg h0, if_neg (fun hh => hf hh.2)])
      have HD := Lib.hid (fun k => Did.quiet h (below_dr w k))
      clear h h0 h1 k1 hf
      go_enter Try.func13, Try.ntmps13
      go_wp2_with fail
      go_quiet (fail)
      go_wp2
      go_end0
      exact ⟨rfl, by rw [HS.out]; exact HD.out _⟩
  · have q1 : (s.state == 1) = false := by simp [h1]
    have HS := Lib.hid (show beatS s = s by unfold beatS; rw [if_neg h0, if_neg (fun hh => h1 hh.1)])
    have HD := Lib.hid (Did.quiet h (Below.refl _ _))
    clear h h0 h1 k1
    go_enter Try.func13, Try.ntmps13
    go_wp2
    go_end0
    exact ⟨rfl, by rw [HS.out]; exact HD.out⟩
set_option maxRecDepth 100000 in
set_option maxHeartbeats 1600000 in
theorem new_bad (next win : Int) (hn : okNew next win = false) : Calls Try.prog 7 #[.int .i64 next, .int .i64 win] w fun e w' => e = .returned (.tuple #[.pointer none, .int .i64 1]) ∧ w = w' := by
  have hn' : ¬ ((1 ≤ next ∧ next ≤ 1099511627776) ∧ 1 ≤ win ∧ win ≤ 64) := fun h => by rw [(okNew_iff _ _).2 h] at hn; cases hn
  clear hn
  by_cases h1 : next < 1
  · have d1 : decide (next < 1) = true := decide_eq_true h1
    clear hn' h1
    go_enter Try.func7, Try.ntmps7
    go_wp2
    go_ret2
    exact ⟨rfl, rfl⟩
  have d1 : decide (next < 1) = false := decide_eq_false h1
  by_cases h2 : 1099511627776 < next
  · have d2 : decide (1099511627776 < next) = true := decide_eq_true h2
    clear hn' h1 h2
    go_enter Try.func7, Try.ntmps7
    go_wp2
    go_ret2
    exact ⟨rfl, rfl⟩
  have d2 : decide (1099511627776 < next) = false := decide_eq_false h2
  by_cases h3 : win < 1
  · have d3 : decide (win < 1) = true := decide_eq_true h3
    clear hn' h1 h2 h3
    go_enter Try.func7, Try.ntmps7
    go_wp2
    go_ret2
    exact ⟨rfl, rfl⟩
  have d3 : decide (win < 1) = false := decide_eq_false h3
  have d4 : decide (64 < win) = true := decide_eq_true (by omega)
  clear hn' h1 h2 h3
  go_enter Try.func7, Try.ntmps7
  go_wp2
  go_ret2
  exact ⟨rfl, rfl⟩
set_option maxRecDepth 100000 in
set_option maxHeartbeats 1600000 in
theorem new_ok (next win : Int) (hn : okNew next win = true) : Calls Try.prog 7 #[.int .i64 next, .int .i64 win] w fun e w' => e = .returned (.tuple #[.pointer (some ⟨w.heap.size, 0, none⟩), .int .i64 0]) ∧ ImA w.heap.size w' w.heap.size (newS next win) none 0 ∧ Below w.heap.size w w' := by
  have hn' := (okNew_iff _ _).1 hn
  have d1 : decide (next < 1) = false := decide_eq_false (by omega)
  have d2 : decide (1099511627776 < next) = false := decide_eq_false (by omega)
  have d3 : decide (win < 1) = false := decide_eq_false (by omega)
  have d4 : decide (64 < win) = false := decide_eq_false (by omega)
  have HI := Lib.hid (show ImA w.heap.size (w.alloc (.cells (ndC (newS next win) none 0) 42)) w.heap.size (newS next win) none 0 from ⟨Nat.le_refl _, Blk.new w _ _, Fly.emp _ _ _⟩)
  have HB := Lib.hid (alloc_below w (.cells (ndC (newS next win) none 0) 42))
  clear hn hn'
  go_enter Try.func7, Try.ntmps7
  go_wp2
  go_ret2
  exact ⟨rfl, HI.out, HB.out⟩
end
end Go.Proofs.Ytfifimgmgmckfaa.Pg
