/-
  Layer 14: a slice of floats opened to cells, each with the bits that a float has, and no longer than its room. No condition.
-/
import Derived.Test.YtofbioefckdmbaaNeOpn
import Derived.Test.YtofbioefckdmbaaFareOpen
namespace Go.Proofs.Ytofbioefckdmbaa.Ne
open Go.RowKit Go.ChangeShapes Go.WideShapes Go.Deep
open Go.Proofs.Ytofbioefckdmbaa.Fr (RdF f64_of_wf)
set_option linter.unusedVariables false

section
variable {H : Type} {encH : TypeId × Value → H} {w : World} {base : Nat} {spare : Nat → Bool} {held : Bool}
theorem trod_floatB {t : TypeId} {n : Nat} {cs : List Value} {x : DataW H × List MemPlace} (ht : Try.prog.underlying t = some (.float .f64)) (h : DataW.trod encH Try.prog w base spare held n t cs = some x) : ∃ b, cs = [.float .f64 b] ∧ b < 18446744073709551616 := by
  cases n with
  | zero => simp [DataW.trod] at h
  | succ n =>
    unfold DataW.trod at h
    rw [ht] at h
    split at h <;> simp_all
    rename_i heq
    subst heq
    exact f64_of_wf h.1.2
theorem open_floatsB {fuel : Nat} {A : Option Addr} {len cap : Nat} {x : DataW H × List MemPlace} (h : DataW.trod encH Try.prog w base spare held fuel 22 [.slice A len cap] = some x) : ∃ zs, RdF w A len zs ∧ (∀ i, i < len → zs.getD i 0 < 18446744073709551616) ∧ len ≤ cap ∧ cap ≤ 9223372036854775807 := by
  rcases open_slice Try.underlying22 h with ⟨hcs, _⟩ | ⟨a, len', cap', m, n, D, Pl, hcs, hb, hl, hm, hmm, hx, hi⟩
  · simp at hcs
    obtain ⟨rfl, rfl, rfl⟩ := hcs
    exact ⟨[], ⟨rfl, by unfold maxLen; omega, fun h => by omega⟩, fun i h => by omega, by omega, by omega⟩
  · simp at hcs
    obtain ⟨rfl, rfl, rfl⟩ := hcs
    have hlm : len ≤ m := by rw [hmm]; split <;> omega
    have hC : Try.prog.cellsOf 41 = 1 := by kernel_rfl
    have each : ∀ i, ∃ q : Nat, i < len → w.cell? (a.add i) = some (.float .f64 q) ∧ q < 18446744073709551616 := by
      intro i
      by_cases hil : i < len
      · obtain ⟨cs', hc, ht'⟩ := hi i (by omega)
        rw [hC, Nat.mul_one] at hc
        obtain ⟨b, rfl, hbb⟩ := trod_floatB Try.underlying41 ht'
        exact ⟨b, fun _ => ⟨cell_of_cells?_one hc, hbb⟩⟩
      · exact ⟨0, fun h => absurd h hil⟩
    obtain ⟨f, hf⟩ := Classical.axiomOfChoice each
    clear each
    refine ⟨(List.range len).map f, ⟨by simp, by omega, fun hp => ?_⟩, fun i hil => ?_, by omega, hm⟩
    · obtain ⟨b, off, sp⟩ := a
      have hspot : sp = none := by
        have h0 := (hf 0 hp).1
        simpa [Addr.add] using World.cell?_spot h0
      subst hspot
      refine ⟨b, off, rfl, fun i hil => ?_⟩
      have hq := (hf i hil).1
      rw [show (⟨b, off, none⟩ : Addr).add i = ⟨b, off + i, none⟩ by unfold Addr.add; split <;> simp_all] at hq
      rw [hq]
      simp [List.getD_eq_getElem?_getD, hil]
    · have hq := (hf i hil).2
      simp [hil, hq]
end
end Go.Proofs.Ytofbioefckdmbaa.Ne
