/-
  Layer 14, the mathematics: limits, sales, what is left of a class; a sale and a return. No condition.
-/
import Derived.Test.YtofbioefckdmbaaQuMath
namespace Go.Proofs.Ytofbioefckdmbaa.Ne
open Go.Proofs.Ytofbioefckdmbaa.Qu Go.Proofs.Ytofbioefckdmbaa.Fld
set_option linter.unusedVariables false

/-- numbers of seats, all of them -/
def cntP (l : List Int) : Prop := ∀ i, i < l.length → 0 ≤ l.getD i 0 ∧ l.getD i 0 ≤ 10000
def fallP (l : List Int) : Prop := ∀ i, i < l.length → 0 < i → l.getD i 0 ≤ l.getD (i - 1) 0
instance (l : List Int) : Decidable (cntP l) := by unfold cntP; infer_instance
instance (l : List Int) : Decidable (fallP l) := by unfold fallP; infer_instance
def limP (l : List Int) : Prop := 1 ≤ l.length ∧ l.length ≤ 8 ∧ cntP l ∧ fallP l
instance (l : List Int) : Decidable (limP l) := by unfold limP; infer_instance
/-- what the classes from one on have sold together -/
def frm (S : List Int) (k : Nat) : Int := (S.drop k).sum
theorem frm_end (S : List Int) (k : Nat) (h : S.length ≤ k) : frm S k = 0 := by unfold frm; rw [List.drop_of_length_le h]; rfl
theorem frm_at (S : List Int) (k : Nat) (h : k < S.length) : frm S k = S.getD k 0 + frm S (k + 1) := by
  unfold frm
  rw [List.drop_eq_getElem_cons h, List.sum_cons, List.getD_eq_getElem?_getD, List.getElem?_eq_getElem h]
  rfl
def fitP (L S : List Int) : Prop := ∀ k, k < L.length → frm S k ≤ L.getD k 0
instance (L S : List Int) : Decidable (fitP L S) := by unfold fitP; infer_instance
def rightP (L S : List Int) : Prop := limP L ∧ S.length = L.length ∧ cntP S ∧ fitP L S
instance (L S : List Int) : Decidable (rightP L S) := by unfold rightP; infer_instance
def rightB (L S : List Int) : Bool := decide (rightP L S)
/-- what a class's own limit leaves -/
def rm (L S : List Int) (k : Nat) : Int := L.getD k 0 - frm S k
/-- the least of the first numbers -/
def mn (f : Nat → Int) : Nat → Int
  | 0 => f 0
  | k + 1 => min (mn f k) (f (k + 1))
theorem mn_le (f : Nat → Int) : ∀ k i, i ≤ k → mn f k ≤ f i
  | 0, i, h => by
    have h0 : i = 0 := by omega
    subst h0
    exact Int.le_refl _
  | k + 1, i, h => by
    rw [mn]
    rcases Nat.lt_or_ge k i with h1 | h1
    · obtain rfl : i = k + 1 := by omega
      omega
    · have := mn_le f k i h1
      omega
theorem mn_ge (f : Nat → Int) (x : Int) : ∀ k, (∀ i, i ≤ k → x ≤ f i) → x ≤ mn f k
  | 0, h => h 0 (Nat.le_refl _)
  | k + 1, h => by
    rw [mn]
    have h1 := mn_ge f x k (fun i hi => h i (by omega))
    have h2 := h (k + 1) (Nat.le_refl _)
    omega
theorem mn_mem (f : Nat → Int) : ∀ k, ∃ i, i ≤ k ∧ mn f k = f i
  | 0 => ⟨0, Nat.le_refl _, rfl⟩
  | k + 1 => by
    obtain ⟨i, h1, h2⟩ := mn_mem f k
    rw [mn]
    rcases Int.le_total (mn f k) (f (k + 1)) with h | h
    · exact ⟨i, by omega, by omega⟩
    · exact ⟨k + 1, Nat.le_refl _, by omega⟩
theorem mn_congr {f g : Nat → Int} : ∀ k, (∀ i, i ≤ k → f i = g i) → mn f k = mn g k
  | 0, h => h 0 (Nat.le_refl _)
  | k + 1, h => by rw [mn, mn, mn_congr k (fun i hi => h i (by omega)), h (k + 1) (Nat.le_refl _)]
theorem rm_eq (L S : List Int) (k : Nat) : rm L S k = L.getD k 0 - frm S k := rfl
theorem mn_down (f : Nat → Int) {i k : Nat} (h : i ≤ k) : mn f k ≤ mn f i := mn_ge f _ i (fun j hj => mn_le f k j (by omega))
theorem frm_pos {S : List Int} (h : cntP S) : ∀ d k, k + d = S.length → 0 ≤ frm S k ∧ frm S k ≤ 10000 * (d : Int)
  | 0, k, hk => by rw [frm_end S k (by omega)]; omega
  | d + 1, k, hk => by
    have h1 := frm_pos h d (k + 1) (by omega)
    have h2 := h k (by omega)
    rw [frm_at S k (by omega)]
    omega
theorem frm_bd {S : List Int} (h : cntP S) (hl : S.length ≤ 8) (k : Nat) : 0 ≤ frm S k ∧ frm S k ≤ 80000 := by
  rcases Nat.lt_or_ge S.length k with h1 | h1
  · rw [frm_end S k (by omega)]; omega
  · have := frm_pos h (S.length - k) k (by omega)
    omega
theorem rm_bd {L S : List Int} (hL : cntP L) (hS : cntP S) (hl : S.length ≤ 8) (k : Nat) (hk : k < L.length) : -80000 ≤ rm L S k ∧ rm L S k ≤ 10000 := by
  have h1 := frm_bd hS hl k
  have h2 := hL k hk
  unfold rm
  omega
/-- the least of all is no less than nothing just if all sales are within the limits -/
theorem fit_iff (L S : List Int) (h : 1 ≤ L.length) : fitP L S ↔ 0 ≤ mn (rm L S) (L.length - 1) := by
  constructor
  · intro hf
    apply mn_ge
    intro i hi
    have := hf i (by omega)
    unfold rm
    omega
  · intro hm k hk
    have h1 := mn_le (rm L S) (L.length - 1) k (by omega)
    have h2 := rm_eq L S k
    omega
/-- how many more may be sold of a class -/
def lft (L S : List Int) (c : Nat) : Int := mn (rm L S) c
def hasP (L S : List Int) (c : Int) : Prop := rightP L S ∧ 0 ≤ c ∧ c < L.length
instance (L S : List Int) (c : Int) : Decidable (hasP L S c) := by unfold hasP; infer_instance
def hasB (L S : List Int) (c : Int) : Bool := decide (hasP L S c)
def lftV (L S : List Int) (c : Int) : Int := if hasP L S c then lft L S c.toNat else 0
def lftE (L S : List Int) (c : Int) : Int := if hasP L S c then 0 else 1
theorem lft_bd {L S : List Int} (h : rightP L S) (c : Nat) (hc : c < L.length) : 0 ≤ lft L S c ∧ lft L S c ≤ 10000 := by
  obtain ⟨⟨h1, h2, h3, h4⟩, h5, h6, h7⟩ := h
  refine ⟨?_, ?_⟩
  · apply mn_ge
    intro i hi
    have := h7 i (by omega)
    unfold rm
    omega
  · have := mn_le (rm L S) c 0 (by omega)
    have := (rm_bd h3 h6 (by omega) 0 (by omega)).2
    unfold lft
    omega
/-- a class with so many more -/
def addA (S : List Int) (c : Nat) (d : Int) : List Int := S.set c (S.getD c 0 + d)
theorem addA_len (S : List Int) (c : Nat) (d : Int) : (addA S c d).length = S.length := by simp [addA]
theorem addA_at (S : List Int) (c : Nat) (d : Int) (hc : c < S.length) (i : Nat) : (addA S c d).getD i 0 = if i = c then S.getD c 0 + d else S.getD i 0 := by
  unfold addA
  rw [List.getD_eq_getElem?_getD, List.getElem?_set, List.getD_eq_getElem?_getD, List.getD_eq_getElem?_getD]
  by_cases h : c = i
  · subst h; simp [hc]
  · have h' : ¬ i = c := fun e => h e.symm
    simp [h, h']
theorem frm_add (S : List Int) (c : Nat) (d : Int) (hc : c < S.length) : ∀ e k, k + e = S.length → frm (addA S c d) k = frm S k + (if k ≤ c then d else 0)
  | 0, k, hk => by
    rw [frm_end _ k (by rw [addA_len]; omega), frm_end S k (by omega), if_neg (by omega)]
    rfl
  | e + 1, k, hk => by
    have ih := frm_add S c d hc e (k + 1) (by omega)
    rw [frm_at _ k (by rw [addA_len]; omega), frm_at S k (by omega), ih, addA_at S c d hc]
    by_cases h1 : k = c
    · subst h1
      rw [if_pos rfl, if_pos (Nat.le_refl _), if_neg (by omega)]
      omega
    · rw [if_neg h1]
      by_cases h2 : k ≤ c
      · rw [if_pos h2, if_pos (by omega)]; omega
      · rw [if_neg h2, if_neg (by omega)]; omega
theorem rm_add (L S : List Int) (c : Nat) (d : Int) (hc : c < S.length) (k : Nat) : rm L (addA S c d) k = rm L S k - (if k ≤ c then d else 0) := by
  unfold rm
  rcases Nat.lt_or_ge S.length k with h | h
  · rw [frm_end _ k (by rw [addA_len]; omega), frm_end S k (by omega), if_neg (by omega)]
    omega
  · rw [frm_add S c d hc (S.length - k) k (by omega)]
    omega
/-- a sale of no more than are left, and a return, leave the sales right -/
theorem right_add {L S : List Int} (h : rightP L S) {c : Nat} (hc : c < L.length) {d : Int} (h1 : d ≤ lft L S c) (h2 : -(S.getD c 0) ≤ d) : rightP L (addA S c d) := by
  obtain ⟨hL, h5, h6, h7⟩ := h
  obtain ⟨g1, g2, g3, g4⟩ := hL
  have hrm : ∀ k, k < L.length → 0 ≤ rm L (addA S c d) k := by
    intro k hk
    rw [rm_add L S c d (by omega)]
    have h8 := h7 k hk
    by_cases hkc : k ≤ c
    · rw [if_pos hkc]
      have := mn_le (rm L S) c k hkc
      unfold lft at h1
      omega
    · rw [if_neg hkc]
      unfold rm
      omega
  have hfit : fitP L (addA S c d) := fun k hk => by have := hrm k hk; unfold rm at this; omega
  have hpos : ∀ i, i < (addA S c d).length → 0 ≤ (addA S c d).getD i 0 := by
    intro i hi
    rw [addA_len] at hi
    rw [addA_at S c d (by omega)]
    by_cases hic : i = c
    · rw [if_pos hic]; omega
    · rw [if_neg hic]; exact (h6 i hi).1
  refine ⟨⟨g1, g2, g3, g4⟩, by rw [addA_len]; exact h5, fun i hi => ⟨hpos i hi, ?_⟩, hfit⟩
  have hnn : ∀ e k, k + e = (addA S c d).length → 0 ≤ frm (addA S c d) k := by
    intro e
    induction e with
    | zero => intro k hk; rw [frm_end _ k (by omega)]; exact Int.le_refl _
    | succ e ih =>
      intro k hk
      have := ih (k + 1) (by omega)
      have := hpos k (by omega)
      rw [frm_at _ k (by omega)]
      omega
  have e1 := frm_at (addA S c d) i hi
  have e2 := hnn ((addA S c d).length - (i + 1)) (i + 1) (by omega)
  rw [addA_len] at hi
  have e3 := hfit i (by omega)
  have e4 := (g3 i (by omega)).2
  omega
theorem add_back (S : List Int) (c : Nat) (d : Int) (hc : c < S.length) : addA (addA S c d) c (-d) = S := by
  apply List.ext_getElem
  · simp [addA_len]
  · intro i h1 h2
    have := addA_at (addA S c d) c (-d) (by rw [addA_len]; exact hc) i
    rw [addA_at S c d hc, addA_at S c d hc] at this
    rw [List.getD_eq_getElem?_getD, List.getElem?_eq_getElem h1, List.getD_eq_getElem?_getD, List.getD_eq_getElem?_getD, List.getElem?_eq_getElem h2, List.getElem?_eq_getElem hc] at this
    simp at this
    rw [this]
    by_cases h : i = c
    · subst h; simp; omega
    · simp [h]
theorem lft_add_le {L S : List Int} {c : Nat} {d : Int} (hc : c < S.length) (hd : 0 ≤ d) {k : Nat} (hk : k ≤ c) : lft L (addA S c d) k = lft L S k - d := by
  unfold lft
  have key : ∀ j, j ≤ c → mn (rm L (addA S c d)) j = mn (rm L S) j - d := by
    intro j
    induction j with
    | zero => intro hj; rw [mn, mn, rm_add L S c d hc, if_pos hj]
    | succ j ih =>
      intro hj
      rw [mn, mn, ih (by omega), rm_add L S c d hc, if_pos hj]
      omega
  exact key k hk
/-- what Sell and Back answer -/
def sellE (L S : List Int) (c m : Int) : Int := if hasP L S c then (if m < 1 ∨ 10000 < m then 1 else if lft L S c.toNat < m then 3 else 0) else 1
def backE (L S : List Int) (c m : Int) : Int := if hasP L S c then (if m < 1 ∨ S.getD c.toNat 0 < m then 1 else 0) else 1
def sellL (L S : List Int) (c m : Int) : List Int := if sellE L S c m = 0 then addA S c.toNat m else []
def backL (L S : List Int) (c m : Int) : List Int := if backE L S c m = 0 then addA S c.toNat (-m) else []
theorem sell_ok {L S : List Int} {c m : Int} (h : sellE L S c m = 0) : hasP L S c ∧ 1 ≤ m ∧ m ≤ 10000 ∧ m ≤ lft L S c.toNat ∧ sellL L S c m = addA S c.toNat m := by
  refine ⟨?_, ?_, ?_, ?_, by unfold sellL; rw [if_pos h]⟩ <;> unfold sellE at h <;> split at h <;> (try split at h) <;> (try split at h) <;> (first | assumption | omega)
theorem back_ok {L S : List Int} {c m : Int} (h : backE L S c m = 0) : hasP L S c ∧ 1 ≤ m ∧ m ≤ S.getD c.toNat 0 ∧ backL L S c m = addA S c.toNat (-m) := by
  refine ⟨?_, ?_, ?_, by unfold backL; rw [if_pos h]⟩ <;> unfold backE at h <;> split at h <;> (try split at h) <;> (first | assumption | omega)
theorem sell_right {L S : List Int} {c m : Int} (h : sellE L S c m = 0) : rightP L (sellL L S c m) := by
  obtain ⟨⟨h1, h2, h3⟩, h4, h5, h6, h7⟩ := sell_ok h
  rw [h7]
  have hS := h1.2.1
  have := (h1.2.2.1 c.toNat (by omega)).1
  exact right_add h1 (by omega) h6 (by omega)
theorem back_right {L S : List Int} {c m : Int} (h : backE L S c m = 0) : rightP L (backL L S c m) := by
  obtain ⟨⟨h1, h2, h3⟩, h4, h5, h7⟩ := back_ok h
  rw [h7]
  have := (lft_bd h1 c.toNat (by omega)).1
  exact right_add h1 (by omega) (by omega) (by omega)
end Go.Proofs.Ytofbioefckdmbaa.Ne
