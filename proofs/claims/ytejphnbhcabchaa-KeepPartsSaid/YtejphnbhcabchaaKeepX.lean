/-
  Layer 7: what a Whole's Done answers. Conditions: the Whole was made behind a world.
-/
import Derived.Test.YtejphnbhcabchaaKeepW
namespace Go.Proofs.Ytejphnbhcabchaa.Kp
open Go.RowKit Go.Proofs.Ytejphnbhcabchaa.Fld
set_option linter.unusedVariables false

def DoneIs (W : World) (t : WhS) (e : Ending) (W' : World) : Prop := ∃ v, e = .returned (.tuple #[v, .bool (isDone t)]) ∧ Own W W' v (if isDone t then t.zs else [])
theorem below_draw (w : World) (k : Nat) : Below w.heap.size w (w.drewN k) := ⟨rfl, rfl, rfl, Nat.le_refl _, fun _ _ => rfl⟩
set_option maxRecDepth 100000 in
set_option maxHeartbeats 3200000 in
theorem done_any (w0 W : World) (G : Nat) (v : Value) (t : WhS) (h : Wh w0 W G v t) (hl : t.zs.length ≤ 140737488355328) :
    Calls Try.prog 10 #[.pointer (some ⟨G, 0, none⟩)] W (DoneIs W t) := by
  have HH := Lib.hid h
  have c0 := h.blk.cell 0 _ rfl
  have c1 := h.blk.cell 1 _ rfl
  have c2 := h.blk.cell 2 _ rfl
  obtain ⟨V, vc, hv, hsv, _⟩ := h.own.sl _ rfl
  rw [hv] at c2
  have HS := Lib.hid hsv
  clear h hsv hv
  cases hbg : t.bg with
  | false =>
    have HD := Lib.hid (show isDone t = false by unfold isDone; rw [hbg]; rfl)
    rw [hbg] at c0
    go_enter Try.func10, Try.ntmps10
    go_wp2_with fail
    go_quiet (fail)
    go_wp2
    go_ret2
    exact ⟨.slice none 0 0, by rw [HD.out]; rfl, by rw [HD.out]; exact Own.nil _ _ (below_draw W nq)⟩
  | true =>
    rw [hbg] at c0
    by_cases h7 : (t.zs.length : Int) = t.tot
    · have HD := Lib.hid (show isDone t = true by unfold isDone; rw [hbg, decide_eq_true h7]; rfl)
      have q7 : ((t.zs.length : Int) != t.tot) = false := by simpa using h7
      clear h7 hbg
      go_enter Try.func10, Try.ntmps10
      go_wp2_with fail
      go_quiet (fail)
      have d2 : (W.drewN nq).cell? ⟨G, 2, none⟩ = some (.slice V t.zs.length vc) := by simpa using c2
      go_wp2_with fail
      refine (clone_any V _ vc t.zs _ (HS.out.1.drewN nq) HS.out.2.2.2.1 hl).mono ?_
      rintro e w1 ⟨v1, rfl, hO⟩
      have HO := Lib.hid (hO.since (below_draw W nq))
      clear hO
      go_wp2
      go_ret2
      exact ⟨v1, by rw [HD.out]; rfl, by rw [HD.out]; exact HO.out⟩
    · have HD := Lib.hid (show isDone t = false by unfold isDone; rw [hbg, decide_eq_false h7]; rfl)
      have q7 : ((t.zs.length : Int) != t.tot) = true := by simpa using h7
      clear h7 hbg
      go_enter Try.func10, Try.ntmps10
      go_wp2_with fail
      go_quiet (fail)
      go_wp2
      go_ret2
      exact ⟨.slice none 0 0, by rw [HD.out]; rfl, by rw [HD.out]; exact Own.nil _ _ (below_draw W nq)⟩
end Go.Proofs.Ytejphnbhcabchaa.Kp
