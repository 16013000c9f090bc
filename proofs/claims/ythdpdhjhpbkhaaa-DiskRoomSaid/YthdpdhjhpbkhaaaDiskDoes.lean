/-
  One act at both disks: what 'does' answers, a kind of act a theorem, the two calls by their contracts. Conditions: as each theorem states.
-/
import Derived.Test.YthdpdhjhpbkhaaaDiskActs
namespace Go.Proofs.Ythdpdhjhpbkhaaa.Dk
open Go.RowKit Go.Proofs.Ythdpdhjhpbkhaaa.Fld

/-- the world behind the act's own variable -/
def boxed (w : World) (a : Acc) : World := w.alloc (.cells #[.int .i64 a.d, .string a.nm, .string a.to, .int .i64 a.n, .slice a.BA a.bn a.bc, .slice a.KA a.kn a.kc] 36)
def Kept (w : World) (a : Acc) (w1 : World) : Prop := w1.heap[w.heap.size]? = some (.cells #[.int .i64 a.d, .string a.nm, .string a.to, .int .i64 a.n, .slice a.BA a.bn a.bc, .slice a.KA a.kn a.kc] 36 (0, 0))
def actV (a : Acc) : Value := .agg #[.int .i64 a.d, .string a.nm, .string a.to, .int .i64 a.n, .slice a.BA a.bn a.bc, .slice a.KA a.kn a.kc]
/-- both answered, and their answers are held against one another -/
def Both (Q : Int → Int → World → Prop) (e : Ending) (w' : World) : Prop := ∃ x y, e = .returned (.bool (decide (x = y))) ∧ Q x y w'
theorem Kept.cells {w w1 : World} {a : Acc} (h : Kept w a w1) : w1.cell? ⟨w.heap.size, 0, none⟩ = some (.int .i64 a.d) ∧ w1.cell? ⟨w.heap.size, 1, none⟩ = some (.string a.nm) ∧ w1.cell? ⟨w.heap.size, 2, none⟩ = some (.string a.to) ∧ w1.cell? ⟨w.heap.size, 3, none⟩ = some (.int .i64 a.n) ∧ w1.cell? ⟨w.heap.size, 4, none⟩ = some (.slice a.BA a.bn a.bc) ∧ w1.cell? ⟨w.heap.size, 5, none⟩ = some (.slice a.KA a.kn a.kc) :=
  ⟨by rw [cell_of_row _ _ 0 _ _ (0, 0) h]; rfl, by rw [cell_of_row _ _ 1 _ _ (0, 0) h]; rfl, by rw [cell_of_row _ _ 2 _ _ (0, 0) h]; rfl, by rw [cell_of_row _ _ 3 _ _ (0, 0) h]; rfl, by rw [cell_of_row _ _ 4 _ _ (0, 0) h]; rfl, by rw [cell_of_row _ _ 5 _ _ (0, 0) h]; rfl⟩
set_option maxRecDepth 100000 in
set_option maxHeartbeats 3200000 in
theorem does_append (g r : Nat) (a : Acc) (w : World) (hd : a.d = 0) (P : Int → World → Prop) (Q : Int → Int → World → Prop)
    (h1 : Calls Try.prog 16 #[.pointer (some ⟨g, 0, none⟩), .string a.nm, .slice a.BA a.bn a.bc] (boxed w a) fun e w1 => ∃ x, e = .returned (.int .i64 x) ∧ P x w1) (hk : ∀ x w1, P x w1 → Kept w a w1)
    (h2 : ∀ x w1, P x w1 → Calls Try.prog 24 #[.pointer (some ⟨r, 0, none⟩), .string a.nm, .slice a.BA a.bn a.bc] w1 fun e w2 => ∃ y, e = .returned (.int .i64 y) ∧ Q x y w2) :
    Calls Try.prog 13 #[.pointer (some ⟨g, 0, none⟩), .pointer (some ⟨r, 0, none⟩), actV a] w (Both Q) := by
  obtain ⟨d, nm, to, n, BA, bn, bc, bs, KA, kn, kc, ks⟩ := a
  simp only at hd
  subst hd
  have H1 := Lib.hid h1
  have HK := Lib.hid hk
  have H2 := Lib.hid h2
  unfold boxed at H1
  unfold actV
  simp only at H1 H2
  clear h1 hk h2
  go_enter Try.func13, Try.ntmps13
  go_wp2_with (first | (go_at_call 16; refine H1.out.mono ?_; rintro e w1 ⟨x, rfl, hP⟩; obtain ⟨k0, k1, k2, k3, k4, k5⟩ := (HK.out x w1 hP).cells; have HP := Lib.hid (H2.out x w1 hP); clear hP) | (go_at_call 24; refine HP.out.mono ?_; rintro e w2 ⟨y, rfl, hQ⟩; have HQ := Lib.hid hQ; clear hQ))
  go_ret
  exact ⟨x, y, rfl, HQ.out⟩
set_option maxRecDepth 100000 in
set_option maxHeartbeats 3200000 in
theorem does_sync (g r : Nat) (a : Acc) (w : World) (hd : a.d = 1) (P : Int → World → Prop) (Q : Int → Int → World → Prop)
    (h1 : Calls Try.prog 17 #[.pointer (some ⟨g, 0, none⟩), .string a.nm] (boxed w a) fun e w1 => ∃ x, e = .returned (.int .i64 x) ∧ P x w1) (hk : ∀ x w1, P x w1 → Kept w a w1)
    (h2 : ∀ x w1, P x w1 → Calls Try.prog 25 #[.pointer (some ⟨r, 0, none⟩), .string a.nm] w1 fun e w2 => ∃ y, e = .returned (.int .i64 y) ∧ Q x y w2) :
    Calls Try.prog 13 #[.pointer (some ⟨g, 0, none⟩), .pointer (some ⟨r, 0, none⟩), actV a] w (Both Q) := by
  obtain ⟨d, nm, to, n, BA, bn, bc, bs, KA, kn, kc, ks⟩ := a
  simp only at hd
  subst hd
  have H1 := Lib.hid h1
  have HK := Lib.hid hk
  have H2 := Lib.hid h2
  unfold boxed at H1
  unfold actV
  simp only at H1 H2
  clear h1 hk h2
  go_enter Try.func13, Try.ntmps13
  go_wp2_with (first | (go_at_call 17; refine H1.out.mono ?_; rintro e w1 ⟨x, rfl, hP⟩; obtain ⟨k0, k1, k2, k3, k4, k5⟩ := (HK.out x w1 hP).cells; have HP := Lib.hid (H2.out x w1 hP); clear hP) | (go_at_call 25; refine HP.out.mono ?_; rintro e w2 ⟨y, rfl, hQ⟩; have HQ := Lib.hid hQ; clear hQ))
  go_ret
  exact ⟨x, y, rfl, HQ.out⟩
set_option maxRecDepth 100000 in
set_option maxHeartbeats 3200000 in
theorem does_rename (g r : Nat) (a : Acc) (w : World) (hd : a.d = 2) (P : Int → World → Prop) (Q : Int → Int → World → Prop)
    (h1 : Calls Try.prog 26 #[.pointer (some ⟨g, 0, none⟩), .string a.nm, .string a.to] (boxed w a) fun e w1 => ∃ x, e = .returned (.int .i64 x) ∧ P x w1) (hk : ∀ x w1, P x w1 → Kept w a w1)
    (h2 : ∀ x w1, P x w1 → Calls Try.prog 27 #[.pointer (some ⟨r, 0, none⟩), .string a.nm, .string a.to] w1 fun e w2 => ∃ y, e = .returned (.int .i64 y) ∧ Q x y w2) :
    Calls Try.prog 13 #[.pointer (some ⟨g, 0, none⟩), .pointer (some ⟨r, 0, none⟩), actV a] w (Both Q) := by
  obtain ⟨d, nm, to, n, BA, bn, bc, bs, KA, kn, kc, ks⟩ := a
  simp only at hd
  subst hd
  have H1 := Lib.hid h1
  have HK := Lib.hid hk
  have H2 := Lib.hid h2
  unfold boxed at H1
  unfold actV
  simp only at H1 H2
  clear h1 hk h2
  go_enter Try.func13, Try.ntmps13
  go_wp2_with (first | (go_at_call 26; refine H1.out.mono ?_; rintro e w1 ⟨x, rfl, hP⟩; obtain ⟨k0, k1, k2, k3, k4, k5⟩ := (HK.out x w1 hP).cells; have HP := Lib.hid (H2.out x w1 hP); clear hP) | (go_at_call 27; refine HP.out.mono ?_; rintro e w2 ⟨y, rfl, hQ⟩; have HQ := Lib.hid hQ; clear hQ))
  go_ret
  exact ⟨x, y, rfl, HQ.out⟩
set_option maxRecDepth 100000 in
set_option maxHeartbeats 3200000 in
theorem does_unlink (g r : Nat) (a : Acc) (w : World) (hd : a.d = 3) (P : Int → World → Prop) (Q : Int → Int → World → Prop)
    (h1 : Calls Try.prog 28 #[.pointer (some ⟨g, 0, none⟩), .string a.nm] (boxed w a) fun e w1 => ∃ x, e = .returned (.int .i64 x) ∧ P x w1) (hk : ∀ x w1, P x w1 → Kept w a w1)
    (h2 : ∀ x w1, P x w1 → Calls Try.prog 29 #[.pointer (some ⟨r, 0, none⟩), .string a.nm] w1 fun e w2 => ∃ y, e = .returned (.int .i64 y) ∧ Q x y w2) :
    Calls Try.prog 13 #[.pointer (some ⟨g, 0, none⟩), .pointer (some ⟨r, 0, none⟩), actV a] w (Both Q) := by
  obtain ⟨d, nm, to, n, BA, bn, bc, bs, KA, kn, kc, ks⟩ := a
  simp only at hd
  subst hd
  have H1 := Lib.hid h1
  have HK := Lib.hid hk
  have H2 := Lib.hid h2
  unfold boxed at H1
  unfold actV
  simp only at H1 H2
  clear h1 hk h2
  go_enter Try.func13, Try.ntmps13
  go_wp2_with (first | (go_at_call 28; refine H1.out.mono ?_; rintro e w1 ⟨x, rfl, hP⟩; obtain ⟨k0, k1, k2, k3, k4, k5⟩ := (HK.out x w1 hP).cells; have HP := Lib.hid (H2.out x w1 hP); clear hP) | (go_at_call 29; refine HP.out.mono ?_; rintro e w2 ⟨y, rfl, hQ⟩; have HQ := Lib.hid hQ; clear hQ))
  go_ret
  exact ⟨x, y, rfl, HQ.out⟩
set_option maxRecDepth 100000 in
set_option maxHeartbeats 3200000 in
theorem does_fail (g r : Nat) (a : Acc) (w : World) (hd : a.d = 5) (P : Int → World → Prop) (Q : Int → Int → World → Prop)
    (h1 : Calls Try.prog 20 #[.pointer (some ⟨g, 0, none⟩), .int .i64 a.n] (boxed w a) fun e w1 => ∃ x, e = .returned (.int .i64 x) ∧ P x w1) (hk : ∀ x w1, P x w1 → Kept w a w1)
    (h2 : ∀ x w1, P x w1 → Calls Try.prog 31 #[.pointer (some ⟨r, 0, none⟩), .int .i64 a.n] w1 fun e w2 => ∃ y, e = .returned (.int .i64 y) ∧ Q x y w2) :
    Calls Try.prog 13 #[.pointer (some ⟨g, 0, none⟩), .pointer (some ⟨r, 0, none⟩), actV a] w (Both Q) := by
  obtain ⟨d, nm, to, n, BA, bn, bc, bs, KA, kn, kc, ks⟩ := a
  simp only at hd
  subst hd
  have H1 := Lib.hid h1
  have HK := Lib.hid hk
  have H2 := Lib.hid h2
  unfold boxed at H1
  unfold actV
  simp only at H1 H2
  clear h1 hk h2
  go_enter Try.func13, Try.ntmps13
  go_wp2_with (first | (go_at_call 20; refine H1.out.mono ?_; rintro e w1 ⟨x, rfl, hP⟩; obtain ⟨k0, k1, k2, k3, k4, k5⟩ := (HK.out x w1 hP).cells; have HP := Lib.hid (H2.out x w1 hP); clear hP) | (go_at_call 31; refine HP.out.mono ?_; rintro e w2 ⟨y, rfl, hQ⟩; have HQ := Lib.hid hQ; clear hQ))
  go_ret
  exact ⟨x, y, rfl, HQ.out⟩
set_option maxRecDepth 100000 in
set_option maxHeartbeats 3200000 in
theorem does_arm (g r : Nat) (a : Acc) (w : World) (hd : a.d = 6) (P : Int → World → Prop) (Q : Int → Int → World → Prop)
    (h1 : Calls Try.prog 21 #[.pointer (some ⟨g, 0, none⟩), .int .i64 a.n] (boxed w a) fun e w1 => ∃ x, e = .returned (.int .i64 x) ∧ P x w1) (hk : ∀ x w1, P x w1 → Kept w a w1)
    (h2 : ∀ x w1, P x w1 → Calls Try.prog 32 #[.pointer (some ⟨r, 0, none⟩), .int .i64 a.n] w1 fun e w2 => ∃ y, e = .returned (.int .i64 y) ∧ Q x y w2) :
    Calls Try.prog 13 #[.pointer (some ⟨g, 0, none⟩), .pointer (some ⟨r, 0, none⟩), actV a] w (Both Q) := by
  obtain ⟨d, nm, to, n, BA, bn, bc, bs, KA, kn, kc, ks⟩ := a
  simp only at hd
  subst hd
  have H1 := Lib.hid h1
  have HK := Lib.hid hk
  have H2 := Lib.hid h2
  unfold boxed at H1
  unfold actV
  simp only at H1 H2
  clear h1 hk h2
  go_enter Try.func13, Try.ntmps13
  go_wp2_with (first | (go_at_call 21; refine H1.out.mono ?_; rintro e w1 ⟨x, rfl, hP⟩; obtain ⟨k0, k1, k2, k3, k4, k5⟩ := (HK.out x w1 hP).cells; have HP := Lib.hid (H2.out x w1 hP); clear hP) | (go_at_call 32; refine HP.out.mono ?_; rintro e w2 ⟨y, rfl, hQ⟩; have HQ := Lib.hid hQ; clear hQ))
  go_ret
  exact ⟨x, y, rfl, HQ.out⟩
set_option maxRecDepth 100000 in
set_option maxHeartbeats 3200000 in
theorem does_crash (g r : Nat) (a : Acc) (w : World) (hd : a.d = 7) (P : World → Prop) (Q : World → Prop)
    (h1 : Calls Try.prog 15 #[.pointer (some ⟨g, 0, none⟩), .slice a.KA a.kn a.kc] (boxed w a) fun e w1 => e = .returned (.tuple #[]) ∧ P w1) (hk : ∀ w1, P w1 → Kept w a w1)
    (h2 : ∀ w1, P w1 → Calls Try.prog 33 #[.pointer (some ⟨r, 0, none⟩), .slice a.KA a.kn a.kc] w1 fun e w2 => e = .returned (.tuple #[]) ∧ Q w2) :
    Calls Try.prog 13 #[.pointer (some ⟨g, 0, none⟩), .pointer (some ⟨r, 0, none⟩), actV a] w fun e w' => e = .returned (.bool true) ∧ Q w' := by
  obtain ⟨d, nm, to, n, BA, bn, bc, bs, KA, kn, kc, ks⟩ := a
  simp only at hd
  subst hd
  have H1 := Lib.hid h1
  have HK := Lib.hid hk
  have H2 := Lib.hid h2
  unfold boxed at H1
  unfold actV
  simp only at H1 H2
  clear h1 hk h2
  go_enter Try.func13, Try.ntmps13
  go_wp2_with (first | (go_at_call 15; refine H1.out.mono ?_; rintro e w1 ⟨rfl, hP⟩; obtain ⟨k0, k1, k2, k3, k4, k5⟩ := (HK.out w1 hP).cells; have HP := Lib.hid (H2.out w1 hP); clear hP) | (go_at_call 33; refine HP.out.mono ?_; rintro e w2 ⟨rfl, hQ⟩; have HQ := Lib.hid hQ; clear hQ))
  go_ret
  exact ⟨rfl, HQ.out⟩
set_option maxRecDepth 100000 in
set_option maxHeartbeats 3200000 in
theorem does_other (g r : Nat) (a : Acc) (w : World) (hd : a.d < 0 ∨ 7 < a.d) :
    Calls Try.prog 13 #[.pointer (some ⟨g, 0, none⟩), .pointer (some ⟨r, 0, none⟩), actV a] w fun e w' => e = .returned (.bool true) ∧ w' = boxed w a := by
  obtain ⟨d, nm, to, n, BA, bn, bc, bs, KA, kn, kc, ks⟩ := a
  simp only at hd
  have j0 : (d == 0) = false := by simp; omega
  have j1 : (d == 1) = false := by simp; omega
  have j2 : (d == 2) = false := by simp; omega
  have j3 : (d == 3) = false := by simp; omega
  have j4 : (d == 4) = false := by simp; omega
  have j5 : (d == 5) = false := by simp; omega
  have j6 : (d == 6) = false := by simp; omega
  have j7 : (d == 7) = false := by simp; omega
  clear hd
  unfold actV boxed
  go_enter Try.func13, Try.ntmps13
  go_wp2
  go_ret
  exact ⟨rfl, rfl⟩
end Go.Proofs.Ythdpdhjhpbkhaaa.Dk
