/-
  Layer 8: no step changes an entry that is committed. Conditions: the log is as a log should be.
-/
import Derived.Test.YtimplhdliaggfaaRlgS
namespace Go.Proofs.Ytimplhdliaggfaa.Rg
open Go.RowKit Go.Proofs.Ytimplhdliaggfaa.Fld
set_option linter.unusedVariables false

/-- what a step may make of a log: committed is no less, and what was committed and is still there is as it was -/
structure Kp (s s' : St) : Prop where
  com : s.com ≤ s'.com
  es : ∀ p : Int, s.base < p → p ≤ s.com → s'.base < p → s'.es.getD (p - s'.base - 1).toNat en0 = s.es.getD (p - s.base - 1).toNat en0
theorem Kp.refl (s : St) : Kp s s := ⟨Int.le_refl _, fun _ _ _ _ => rfl⟩
theorem kp_add {s : St} (h : s.Ok) (l : List En) : Kp s (stAdd s l) := by
  unfold stAdd
  split
  · refine ⟨Int.le_refl _, fun p h1 h2 h3 => ?_⟩
    have hc := h.cl
    unfold St.last at hc
    show (s.es ++ l).getD (p - s.base - 1).toNat en0 = _
    rw [List.getD_eq_getElem?_getD, List.getElem?_append_left (by omega), ← List.getD_eq_getElem?_getD]
  · exact Kp.refl s
theorem kp_repl {s : St} (h : s.Ok) (e : En) (r : List En) (hc : ¬ e.idx ≤ s.com) : Kp s (repl s e r) := by
  refine ⟨Int.le_refl _, fun p h1 h2 h3 => ?_⟩
  have hl := h.cl
  unfold St.last at hl
  show (s.es.take (e.idx - 1 - s.base).toNat ++ (e :: r)).getD _ en0 = _
  have h4 : (repl s e r).base = s.base := rfl
  rw [h4, List.getD_eq_getElem?_getD, List.getElem?_append_left (by rw [List.length_take]; omega), List.getElem?_take, if_pos (by omega), ← List.getD_eq_getElem?_getD]
theorem kp_mrgA {s : St} (h : s.Ok) (i t : Int) (l : List En) : Kp s (mrgA s i t l).2.2 := by
  unfold mrgA
  split
  · cases mis s l with
    | nil => exact Kp.refl s
    | cons e r =>
      simp only [mrgL]
      split
      · exact Kp.refl s
      · next hc => exact kp_repl h e r hc
  · exact Kp.refl s
theorem kp_mrg {s : St} (h : s.Ok) (i t : Int) (l : List En) : Kp s (mrg s i t l).2.2 := by
  unfold mrg
  split
  · split
    · cases skp s.base l with
      | nil => exact Kp.refl s
      | cons e r =>
        simp only [mrgB]
        split
        · exact Kp.refl s
        · exact kp_mrgA h _ _ _
    · exact kp_mrgA h _ _ _
  · exact Kp.refl s
theorem kp_do {s : St} (h : s.Ok) (x : Stp) : Kp s (stDo x s) := by
  unfold stDo
  split
  · exact kp_add h _
  split
  · exact kp_mrg h _ _ _
  split
  · unfold stCom
    split
    · next hc => exact ⟨hc.1, fun _ _ _ _ => rfl⟩
    · exact Kp.refl s
  split
  · unfold stApp
    split
    · exact ⟨Int.le_refl _, fun _ _ _ _ => rfl⟩
    · exact Kp.refl s
  split
  · unfold stCpt
    split
    · next hc =>
      refine ⟨Int.le_refl _, fun p h1 h2 h3 => ?_⟩
      simp only at h3 ⊢
      rw [List.getD_eq_getElem?_getD, List.getElem?_drop, ← List.getD_eq_getElem?_getD]
      congr 1
      omega
    · exact Kp.refl s
  split
  · unfold stRst
    split
    · next hc =>
      refine ⟨hc.2.2, fun p h1 h2 h3 => ?_⟩
      have : (st0 x.i x.t).base = x.i := rfl
      omega
    · exact Kp.refl s
  · exact Kp.refl s
/-- the committed entries of a log are told by Get from First on -/
theorem getE_com {s : St} (h : s.Ok) : getE s (s.base + 1) (s.com - s.base) = s.es.take (s.com - s.base).toNat := by
  have hl := h.cl
  have h1 := h.ba
  have h2 := h.ac
  unfold St.last at hl
  unfold getE
  split
  · next hc =>
    unfold St.last at hc
    by_cases h0 : s.com - s.base < 1
    · rw [show (s.com - s.base).toNat = 0 by omega, List.take_zero]
    · omega
  · rw [show (s.base + 1 - s.base - 1).toNat = 0 by omega, List.drop_zero]
/-- one entry of a log is told by Get -/
theorem getE_one {s : St} (p : Int) (h1 : s.base < p) (h2 : p ≤ s.last) : getE s p 1 = [s.es.getD (p - s.base - 1).toNat en0] := by
  unfold getE
  unfold St.last at *
  rw [if_neg (by omega)]
  rw [List.drop_eq_getElem_cons (by omega)]
  rw [List.getD_eq_getElem?_getD, List.getElem?_eq_getElem (by omega)]
  rfl
/-- none is told at or below the base -/
theorem getE_low {s : St} (p m : Int) (h1 : p ≤ s.base) : getE s p m = [] := by
  unfold getE
  rw [if_pos (by omega)]
/-- an entry that was committed ahead of a step is told behind it, or is no longer there -/
theorem kept_one {s s' : St} (h : s.Ok) (h' : s'.Ok) (hk : Kp s s') (k : Nat) (hl : k < (s.com - s.base).toNat) :
    (s.es.getD k en0).idx = s.base + 1 + k ∧ (s'.base < s.base + 1 + k → getE s' (s.base + 1 + k) 1 = [s.es.getD k en0]) := by
  have hc := h.cl
  unfold St.last at hc
  refine ⟨(fol_at h.fo k (by omega)).1, fun hb => ?_⟩
  have hc' := h'.cl
  have hcc := hk.com
  rw [getE_one _ hb (by omega), hk.es (s.base + 1 + k) (by omega) (by omega) hb, show (s.base + 1 + (k : Int) - s.base - 1).toNat = k by omega]
/-- terms never fall -/
theorem term_up {s : St} (h : s.Ok) (k : Nat) (hk : k < s.es.length) : entT s k ≤ (s.es.getD k en0).term ∧ entT s (k + 1) = (s.es.getD k en0).term := by
  have h1 := entT_mono h k (k + 1) (by omega) (by omega)
  have h2 : entT s (k + 1) = (s.es.getD k en0).term := by unfold entT; rw [if_neg (by omega), show k + 1 - 1 = k by omega]
  exact ⟨by rw [← h2]; exact h1, h2⟩
end Go.Proofs.Ytimplhdliaggfaa.Rg
