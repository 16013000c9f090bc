/-
  Layer 8: Back in the program: sort.Search over terms. Conditions: the log lies in memory as it was made.
-/
import Derived.Test.YtimplhdliaggfaaRlgC
namespace Go.Proofs.Ytimplhdliaggfaa.Rg
open Go.RowKit Go.Proofs.Ytimplhdliaggfaa.Fld
set_option linter.unusedVariables false

/-- what Back tells: as many places behind the base, of most M -/
def BackU (s : St) (M : Nat) (t : Int) (u : Nat) : Prop := u ≤ M ∧ (∀ k, k < u → entT s (k + 1) ≤ t) ∧ ∀ k, u ≤ k → k < M → t < entT s (k + 1)
def backM (s : St) (i : Int) : Nat := (min i s.last - s.base).toNat
theorem backM_le (s : St) (i : Int) : backM s i ≤ s.es.length := by
  unfold backM St.last
  omega
theorem BackU.one {s : St} {M : Nat} {t : Int} {u u' : Nat} (h : BackU s M t u) (h' : BackU s M t u') : u = u' := by
  obtain ⟨a1, a2, a3⟩ := h
  obtain ⟨b1, b2, b3⟩ := h'
  rcases Nat.lt_trichotomy u u' with hl | hl | hl
  · have := a3 u (Nat.le_refl _) (by omega)
    have := b2 u hl
    omega
  · exact hl
  · have := b3 u' (Nat.le_refl _) (by omega)
    have := a2 u' hl
    omega
theorem entB_mono {s : St} (h : s.Ok) (t : Int) (a b : Nat) (hab : a ≤ b) (hb : b < s.es.length) (ha : decide (t < entT s (a + 1)) = true) : decide (t < entT s (b + 1)) = true := by
  have := entT_mono h (a + 1) (b + 1) (by omega) (by omega)
  simp only [decide_eq_true_eq] at ha ⊢
  omega
theorem wrap64_in (z : Int) (h0 : -9223372036854775808 ≤ z) (h1 : z ≤ 9223372036854775807) : wrap64 z = z := by
  unfold wrap64
  omega
end Go.Proofs.Ytimplhdliaggfaa.Rg
