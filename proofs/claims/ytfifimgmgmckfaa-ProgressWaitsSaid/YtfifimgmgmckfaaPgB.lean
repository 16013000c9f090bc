/-
  Layer 11, in the program: upTo, land, Sent, Acked, Refused, Beat, Install, Over, New. Conditions: as each theorem states.
-/
import Derived.Test.YtfifimgmgmckfaaPgA
import Derived.Test.YtfifimgmgmckfaaPgApp
namespace Go.Proofs.Ytfifimgmgmckfaa.Pg
open Go.RowKit Go.Proofs.Ytfifimgmgmckfaa.Qu Go.Proofs.Ytfifimgmgmckfaa.Fld
set_option linter.unusedVariables false

theorem upTo_cons (x : Int) (l : List Int) (i : Int) : upTo (x :: l) i = if x ≤ i then upTo l i + 1 else 0 := by
  unfold upTo
  by_cases h : x ≤ i <;> simp [h]
theorem upTo_at : ∀ (l : List Int) (i : Int) (k : Nat), k ≤ upTo l i → k < l.length → (decide (l.getD k 0 ≤ i) = decide (k < upTo l i))
  | [], i, k, _, h => by simp at h
  | x :: l, i, k, hk, h => by
    rw [upTo_cons] at hk ⊢
    by_cases hx : x ≤ i
    · rw [if_pos hx] at hk ⊢
      rcases k with _ | k
      · simp [hx]
      · have := upTo_at l i k (by omega) (by simp at h; omega)
        simp only [List.getD_cons_succ]
        rw [this]
        simp
    · rw [if_neg hx] at hk ⊢
      obtain rfl : k = 0 := by omega
      simp [hx]
section
variable (lo g : Nat) (s : St) (A : Option Addr) (cap : Nat) (w : World)
set_option maxRecDepth 100000 in
set_option maxHeartbeats 1600000 in
theorem upTo_any (i : Int) (h : ImA lo w g s A cap) : Calls Try.prog 23 #[.pointer (some ⟨g, 0, none⟩), .int .i64 i] w fun e w' => e = .returned (.int .i64 (upTo s.fl i : Nat)) ∧ Below w.heap.size w w' := by
  have HI := Lib.hid h
  have HU := Lib.hid (upTo_at s.fl i)
  have HL := Lib.hid (upTo_le s.fl i)
  have hm := h.fly.rd.2.1
  unfold maxLen at hm
  clear h
  go_enter Try.func23, Try.ntmps23
  go_wp2_with fail
  go_loopw [5] (fun n wr => ∃ k : Nat, k ≤ upTo s.fl i ∧ n = .int .i64 (k : Int) ∧ Below w.heap.size w wr) (fun n _ => s.fl.length - (intOf n).toNat)
  case atStart => exact ⟨0, Nat.zero_le _, rfl, Below.refl _ _⟩
  case round =>
    obtain ⟨k, hk, rfl, hb⟩ := hrel
    have HB := Lib.hid hb
    have h1 := HI.out.below hb
    obtain ⟨c0, c1, c2, c3, c4, c5, c6⟩ := h1.cells
    have hfl := h1.fly.rd
    clear hb h1
    by_cases hlt : k < s.fl.length
    · obtain ⟨b, off, rfl, hc⟩ := hfl.2.2 (by omega)
      have hc1 := hc k hlt
      have hu := HU.out k hk hlt
      clear hc hfl
      generalize s.fl.getD k 0 = z at *
      by_cases hz : k < upTo s.fl i
      · rw [decide_eq_true hz] at hu
        go_wp2_with fail
        go_roundw
        case rel => exact ⟨k + 1, by omega, by go_num, HB.out⟩
        case measure => simp [intOf]; omega
      · rw [decide_eq_false hz] at hu
        have HK := Lib.hid (show k = upTo s.fl i by omega)
        go_wp2_with fail
        go_ret
        exact ⟨by rw [← HK.out]; rfl, HB.out⟩
    · have HK := Lib.hid (show k = upTo s.fl i by have := HL.out; omega)
      go_wp2_with fail
      go_ret
      exact ⟨by rw [← HK.out]; rfl, HB.out⟩
theorem run_cut (n k : Nat) (hnil : A = none → cap = 0) (hsp : ∀ a, A = some a → a.spot = none) (hk : k ≤ n) (hn : n ≤ cap) (hm : cap ≤ maxLen) (W : World) :
    (Instr.slice 38 (.slice A n cap) (some (.int .i64 (k : Int))) (some (.int .i64 (n : Int))) (some (.int .i64 (n : Int)))).run Try.prog W = .ok (.slice (cutA A n k) (n - k) (n - k)) W := by
  unfold maxLen at hm
  cases A with
  | none =>
    obtain rfl := hnil rfl
    obtain rfl : n = 0 := by omega
    obtain rfl : k = 0 := by omega
    go_simp
    rfl
  | some a =>
    obtain ⟨b, off, sp⟩ := a
    obtain rfl : sp = none := hsp _ rfl
    have h1 : (0 : Int) ≤ (k : Int) := by omega
    have h2 : (k : Int) ≤ (n : Int) := by omega
    have h3 : (n : Int) ≤ (cap : Int) := by omega
    by_cases h : n = k
    · subst h
      show _ = Result.ok (Value.slice (some (if n = n then _ else _)) _ _) W
      rw [if_pos rfl]
      go_simp
    · show _ = Result.ok (Value.slice (some (if n = k then _ else _)) _ _) W
      rw [if_neg h]
      go_simp
set_option maxRecDepth 100000 in
set_option maxHeartbeats 1600000 in
theorem land_any (k : Nat) (hk : k ≤ s.fl.length) (h : ImA lo w g s A cap) : Calls Try.prog 22 #[.pointer (some ⟨g, 0, none⟩), .int .i64 (k : Int)] w fun e w' => e = .returned (.tuple #[]) ∧ Did lo w w' g { s with fl := s.fl.drop k } := by
  have hl : (s.fl.drop k).length = s.fl.length - k := List.length_drop
  have h1 : ImA lo (w.setCell ⟨g, 5, none⟩ (.slice (cutA A s.fl.length k) (s.fl.length - k) (s.fl.length - k))) g { s with fl := s.fl.drop k } (cutA A s.fl.length k) (s.fl.length - k) := by
    have := h.put (s' := { s with fl := s.fl.drop k }) (h.fly.cut k hk) (by unfold ndC; rfl)
    rw [show ({ s with fl := s.fl.drop k } : St).fl.length = s.fl.length - k from hl] at this
    exact this
  have HD := Lib.hid (show Did lo w _ g { s with fl := s.fl.drop k } from ⟨⟨_, _, h1⟩, (Below.refl lo w).setCell (p := ⟨g, 5, none⟩) h.base _, h.size⟩)
  obtain ⟨c0, c1, c2, c3, c4, c5, c6⟩ := h.cells
  have f5 := Blk.free h.blk 5
  have hrun := run_cut A cap s.fl.length k h.fly.nil (fun a ha => (h.fly.pl a ha).1) hk h.fly.lc h.fly.cm
  clear h h1 hl
  generalize cutA A s.fl.length k = A2 at *
  generalize s.fl.length - k = n2 at *
  go_enter Try.func22, Try.ntmps22
  go_wp2_with fail
  all_goals
    go_end0
    exact ⟨rfl, HD.out⟩
end
end Go.Proofs.Ytfifimgmgmckfaa.Pg
