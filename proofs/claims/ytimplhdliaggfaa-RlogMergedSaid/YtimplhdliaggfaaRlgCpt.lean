/-
  Layer 8: RlogCompacts. Conditions: the arguments can be read.
-/
import Derived.Test.YtimplhdliaggfaaRlgScr
namespace Go.Proofs.Ytimplhdliaggfaa.Rg
open Go.RowKit Go.Proofs.Ytimplhdliaggfaa.Fld
set_option linter.unusedVariables false

theorem RdSt.below {w w' : World} {A : Option Addr} {n : Nat} {l : List Stp} (h : RdSt w A n l) (hb : Below w.heap.size w w') : RdSt w' A n l :=
  ⟨h.1, h.2.1, fun hp => by
      obtain ⟨b', off, hA, hc⟩ := h.2.2.1 hp
      exact ⟨b', off, hA, fun i hi j hj => by
        have h1 := hc i hi j hj
        have h2 : (l[i].cells[j]?).isSome = true := by rw [List.getElem?_eq_getElem (by show j < 4; exact hj)]; rfl
        obtain ⟨v, hv⟩ := Option.isSome_iff_exists.1 h2
        rw [hv] at h1 ⊢
        exact (hb.cell (lt_of_cell h1)).trans h1⟩, fun a ha => (h.2.2.2 a ha).below hb⟩
theorem Pr.still {W0 w w' : World} {g : Nat} {v : Value} {s s' : St} {xs : List EA} {r : Nat} {rv : Value} {rs : List EA} (h : Pr W0 w g v s xs r rv s' rs) (hs : Still w w') : Pr W0 w' g v s xs r rv s' rs := h.below (below_still hs (Nat.le_refl _))
theorem getE_drop {s : St} (k : Nat) (hk : k ≤ s.es.length) (hl : s.es.length ≤ 100000) : getE s (s.base + k + 1) 100000 = s.es.drop k := by
  unfold getE
  split
  · next hc =>
    unfold St.last at hc
    rw [List.drop_eq_nil_of_le (by omega)]
  · rw [show (s.base + (k : Int) + 1 - s.base - 1).toNat = k by omega, List.take_of_length_le (by rw [List.length_drop]; show s.es.length - k ≤ 100000; omega)]
/-- entries that were told before a change of the log -/
theorem told_kept {w5 w6 w8 : World} {lo g : Nat} {v : Value} {s : St} {xs : List EA} {LA : Option Addr} {lc : Nat} {ys : List EA} (h : Im lo w5 g s v xs) (hb : Below w5.heap.size w5 w6) (hr : w6.ownsRow w5.heap.size 36 4 (.slice LA ys.length lc) ys.length (rowE ys)) (hd : DatO w5.heap.size w6 ys) {S : List Nat} (hS : ∀ i ∈ S, i < w5.heap.size ∧ ∀ cs, ¬ Blk w6 i cs 5) (hf : Dk.Fr S w6 w8) : RdE w8 LA ys.length ys := by
  have hr8 : w8.ownsRow w5.heap.size 36 4 (.slice LA ys.length lc) ys.length (rowE ys) := row_of hr (fun i hi => hf.block i (row_lo hr i hi).2 (fun hm => by have := (hS i hm).1; have := (row_lo hr i hi).1; omega))
  exact row_rdE hr8 (hd.not8 hf (fun i hi => (hS i hi).2)).dat
end Go.Proofs.Ytimplhdliaggfaa.Rg
