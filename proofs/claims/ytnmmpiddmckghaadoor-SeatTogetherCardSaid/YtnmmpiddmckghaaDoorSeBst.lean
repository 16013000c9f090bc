/-
  Layer 13, the mathematics: the free seats, and which of them are the best. No condition.
-/
import Derived.Test.YtnmmpiddmckghaaDoorSeMath
namespace Go.Proofs.YtnmmpiddmckghaaDoor.Se
open Go.Proofs.YtnmmpiddmckghaaDoor.Qu Go.Proofs.YtnmmpiddmckghaaDoor.Fld
set_option linter.unusedVariables false

/-- the numbers below N that do not stand in tk -/
def frN (tk : List Int) : Nat → List Int
  | 0 => []
  | N + 1 => frN tk N ++ (if hasI tk N then [] else [(N : Int)])
theorem fr_succ (tk : List Int) (N : Nat) : frN tk (N + 1) = frN tk N ++ (if hasI tk N then [] else [(N : Int)]) := rfl
theorem fr_len (tk : List Int) : ∀ N, (frN tk N).length ≤ N
  | 0 => Nat.le_refl _
  | N + 1 => by
    have := fr_len tk N
    rw [fr_succ, List.length_append]
    split <;> simp <;> omega
theorem fr_mem (tk : List Int) : ∀ N x, x ∈ frN tk N ↔ 0 ≤ x ∧ x < N ∧ hasI tk x = false
  | 0, x => by simp [frN]; omega
  | N + 1, x => by
    rw [fr_succ, List.mem_append, fr_mem tk N x]
    cases h : hasI tk (N : Int) with
    | true =>
      rw [if_pos rfl]
      simp only [List.not_mem_nil, or_false]
      constructor
      · rintro ⟨h1, h2, h3⟩; exact ⟨h1, by omega, h3⟩
      · rintro ⟨h1, h2, h3⟩
        refine ⟨h1, ?_, h3⟩
        rcases Int.lt_or_eq_of_le (show x ≤ N by omega) with h4 | h4
        · exact h4
        · subst h4; rw [h] at h3; cases h3
    | false =>
      rw [if_neg (by simp)]
      simp only [List.mem_singleton]
      constructor
      · rintro (⟨h1, h2, h3⟩ | rfl)
        · exact ⟨h1, by omega, h3⟩
        · exact ⟨by omega, by omega, h⟩
      · rintro ⟨h1, h2, h3⟩
        by_cases h4 : x < N
        · exact .inl ⟨h1, h4, h3⟩
        · exact .inr (by omega)
theorem fr_up (tk : List Int) : ∀ N, (frN tk N).Pairwise (· < ·)
  | 0 => List.Pairwise.nil
  | N + 1 => by
    rw [fr_succ]
    split
    · rw [List.append_nil]; exact fr_up tk N
    · rw [List.pairwise_append]
      refine ⟨fr_up tk N, by simp, ?_⟩
      intro a ha b hb
      simp at hb
      subst hb
      exact ((fr_mem tk N a).1 ha).2.1
theorem up_at {l : List Int} (h : l.Pairwise (· < ·)) : ∀ d i, i + d < l.length → l.getD i 0 + d ≤ l.getD (i + d) 0
  | 0, i, _ => by simp
  | d + 1, i, hi => by
    have h1 := up_at h d i (by omega)
    have h2 := List.pairwise_iff_getElem.1 h (i + d) (i + d + 1) (by omega) (by omega) (by omega)
    have e1 : l.getD (i + d) 0 = l[i + d] := by rw [List.getD_eq_getElem?_getD, List.getElem?_eq_getElem (by omega)]; rfl
    have e2 : l.getD (i + (d + 1)) 0 = l[i + d + 1] := by rw [List.getD_eq_getElem?_getD, show i + (d + 1) = i + d + 1 by omega, List.getElem?_eq_getElem (by omega)]; rfl
    rw [e1] at h1
    rw [e2]
    omega
theorem up_le {l : List Int} (h : l.Pairwise (· < ·)) {i j : Nat} (hij : i ≤ j) (hj : j < l.length) : l.getD i 0 + ((j - i : Nat) : Int) ≤ l.getD j 0 := by
  have := up_at h (j - i) i (by omega)
  rwa [show i + (j - i) = j by omega] at this

/-- so many from place i on stand beside one another, in a group -/
def okAt (gs fr : List Int) (m i : Nat) : Bool := decide (fr.getD (i + m - 1) 0 = fr.getD i 0 + m - 1) && decide (fr.getD (i + m - 1) 0 < bhd gs (fr.getD i 0))
/-- the first such place below k -/
def tog (gs fr : List Int) (m : Nat) : Nat → Option Nat
  | 0 => none
  | k + 1 => match tog gs fr m k with
    | some i => some i
    | none => if okAt gs fr m k then some k else none
theorem tog_some (gs fr : List Int) (m : Nat) : ∀ k i, tog gs fr m k = some i → i < k ∧ okAt gs fr m i = true ∧ ∀ j, j < i → okAt gs fr m j = false
  | 0, i, h => by cases h
  | k + 1, i, h => by
    unfold tog at h
    cases ht : tog gs fr m k with
    | some j =>
      rw [ht] at h
      obtain rfl := Option.some.inj h
      obtain ⟨h1, h2, h3⟩ := tog_some gs fr m k j ht
      exact ⟨by omega, h2, h3⟩
    | none =>
      rw [ht] at h
      simp only at h
      split at h
      · rename_i hk
        obtain rfl := Option.some.inj h
        refine ⟨by omega, hk, ?_⟩
        intro j hj
        exact tog_none gs fr m k ht j hj
      · cases h
where tog_none (gs fr : List Int) (m : Nat) : ∀ k, tog gs fr m k = none → ∀ j, j < k → okAt gs fr m j = false
  | 0, _, j, hj => by omega
  | k + 1, h, j, hj => by
    unfold tog at h
    cases ht : tog gs fr m k with
    | some i => rw [ht] at h; cases h
    | none =>
      rw [ht] at h
      simp only at h
      by_cases hjk : j = k
      · subst hjk
        cases ho : okAt gs fr m j with
        | false => rfl
        | true => rw [ho] at h; simp at h
      · exact tog_none gs fr m k ht j (by omega)
theorem tog_succ_ok {gs fr : List Int} {m k : Nat} (h : tog gs fr m k = none) (ho : okAt gs fr m k = true) : tog gs fr m (k + 1) = some k := by unfold tog; rw [h]; simp [ho]
theorem tog_succ_no {gs fr : List Int} {m k : Nat} (h : tog gs fr m k = none) (ho : okAt gs fr m k = false) : tog gs fr m (k + 1) = none := by unfold tog; rw [h]; simp [ho]
theorem tog_stay {gs fr : List Int} {m i : Nat} : ∀ d k, tog gs fr m k = some i → tog gs fr m (k + d) = some i
  | 0, k, h => h
  | d + 1, k, h => by
    rw [← Nat.add_assoc]
    unfold tog
    rw [tog_stay d k h]
theorem tog_found {gs fr : List Int} {m k K : Nat} (h : tog gs fr m k = none) (ho : okAt gs fr m k = true) (hk : k < K) : tog gs fr m K = some k := by
  have := tog_stay (K - (k + 1)) (k + 1) (tog_succ_ok h ho)
  rwa [show k + 1 + (K - (k + 1)) = K by omega] at this
/-- where the best ones begin among the free ones -/
def togI (gs fr : List Int) (m : Nat) : Nat := (tog gs fr m (fr.length - m + 1)).getD 0
theorem togI_le {gs fr : List Int} {m : Nat} (h : m ≤ fr.length) : togI gs fr m + m ≤ fr.length := by
  unfold togI
  cases ht : tog gs fr m (fr.length - m + 1) with
  | none => simpa using h
  | some i =>
    have := (tog_some gs fr m _ i ht).1
    simp
    omega
def bestL (gs fr : List Int) (m : Nat) : List Int := (fr.drop (togI gs fr m)).take m
theorem best_len {gs fr : List Int} {m : Nat} (h : m ≤ fr.length) : (bestL gs fr m).length = m := by
  have := togI_le (gs := gs) h
  unfold bestL
  rw [List.length_take, List.length_drop]
  omega
theorem best_at {gs fr : List Int} {m j : Nat} (hj : j < m) : (bestL gs fr m).getD j 0 = fr.getD (togI gs fr m + j) 0 := by
  unfold bestL
  rw [List.getD_eq_getElem?_getD, List.getElem?_take, if_pos hj, List.getElem?_drop, ← List.getD_eq_getElem?_getD]
theorem best_mem {gs fr : List Int} {m : Nat} {x : Int} (h : x ∈ bestL gs fr m) : x ∈ fr := List.mem_of_mem_drop (List.mem_of_mem_take h)
theorem best_up {gs fr : List Int} {m : Nat} (h : fr.Pairwise (· < ·)) : (bestL gs fr m).Pairwise (· < ·) :=
  List.Pairwise.sublist ((List.take_sublist _ _).trans (List.drop_sublist _ _)) h
/-- the answer of Best: none, or so many; and what is amiss -/
def bstE (r : Int) (gs tk : List Int) (m : Int) : Int :=
  if m < 1 ∨ cntS r gs < m then 1 else if ((frN tk (cntS r gs).toNat).length : Int) < m then 3 else 0
def bstL (r : Int) (gs tk : List Int) (m : Int) : List Int :=
  if bstE r gs tk m = 0 then bestL gs (frN tk (cntS r gs).toNat) m.toNat else []
theorem bst_ok {r : Int} {gs tk : List Int} {m : Int} (h : bstE r gs tk m = 0) : 1 ≤ m ∧ m ≤ cntS r gs ∧ m ≤ (frN tk (cntS r gs).toNat).length := by
  unfold bstE at h
  split at h
  · omega
  · split at h
    · omega
    · omega
theorem bst_of {r : Int} {gs tk : List Int} {m : Int} (h1 : 1 ≤ m) (h2 : m ≤ cntS r gs) (h3 : m ≤ (frN tk (cntS r gs).toNat).length) : bstE r gs tk m = 0 := by
  unfold bstE
  rw [if_neg (by omega), if_neg (by omega)]
theorem bst_cases (r : Int) (gs tk : List Int) (m : Int) : bstE r gs tk m = 0 ∨ bstE r gs tk m = 1 ∨ bstE r gs tk m = 3 := by
  unfold bstE
  split
  · exact .inr (.inl rfl)
  · split
    · exact .inr (.inr rfl)
    · exact .inl rfl

/-- where many free seats stand one beside the other, the best ones stand so, too, and not behind them -/
theorem best_together {r : Int} {gs tk : List Int} {f : Int} {m : Nat} (hm : 1 ≤ m) (hf : 0 ≤ f)
    (hfree : ∀ i, i < m → hasI tk (f + i) = false ∧ f + i < cntS r gs) (hbes : ∀ i, i + 1 < m → f + i + 1 ∈ besL r gs (f + i)) :
    bstE r gs tk m = 0 ∧ (∀ i, i + 1 < m → (bstL r gs tk m).getD (i + 1) 0 ∈ besL r gs ((bstL r gs tk m).getD i 0)) ∧ (bstL r gs tk m).getD 0 0 ≤ f := by
  have hc := cnt_bd r gs
  have h0 := hfree 0 (by omega)
  obtain ⟨hl, _⟩ := lay_cnt hf (by simpa using h0.2)
  obtain ⟨_, _, _, _, h5, _, h7⟩ := lay_of hl
  obtain ⟨N, hN⟩ : ∃ N, (cntS r gs).toNat = N := ⟨_, rfl⟩
  obtain ⟨fr, hfr⟩ : ∃ fr, frN tk N = fr := ⟨_, rfl⟩
  have hup : fr.Pairwise (· < ·) := by rw [← hfr]; exact fr_up tk N
  have hmem : ∀ x, x ∈ fr ↔ 0 ≤ x ∧ x < N ∧ hasI tk x = false := by rw [← hfr]; exact fr_mem tk N
  -- the place of f
  obtain ⟨p, hp, hpf⟩ : ∃ p, p < fr.length ∧ fr.getD p 0 = f := by
    have := (hmem f).2 ⟨hf, by have := h0.2; omega, by simpa using h0.1⟩
    obtain ⟨p, hp, he⟩ := List.getElem_of_mem this
    exact ⟨p, hp, by rw [List.getD_eq_getElem?_getD, List.getElem?_eq_getElem hp, he]; rfl⟩
  have run : ∀ i, i < m → p + i < fr.length ∧ fr.getD (p + i) 0 = f + i := by
    intro i
    induction i with
    | zero => intro _; exact ⟨hp, by simpa using hpf⟩
    | succ i ih =>
      intro hi
      obtain ⟨h1, h2⟩ := ih (by omega)
      have hin := (hmem (f + ((i + 1 : Nat) : Int))).2 ⟨by omega, by have := (hfree (i + 1) hi).2; omega, (hfree (i + 1) hi).1⟩
      obtain ⟨q, hq, he⟩ := List.getElem_of_mem hin
      have he2 : fr.getD q 0 = f + ((i + 1 : Nat) : Int) := by rw [List.getD_eq_getElem?_getD, List.getElem?_eq_getElem hq, he]; rfl
      rcases Nat.lt_trichotomy q (p + i + 1) with h3 | h3 | h3
      · have := up_le hup (i := q) (j := p + i) (by omega) h1
        omega
      · subst h3
        exact ⟨hq, he2⟩
      · have h4 := up_le hup (i := p + i + 1) (j := q) (by omega) hq
        have h5 := up_le hup (i := p + i) (j := p + i + 1) (by omega) (by omega)
        omega
  have group : ∀ i, i < m → f + i < bhd gs f ∧ bhd gs (f + i) = bhd gs f := by
    intro i
    induction i with
    | zero => intro _; exact ⟨by have := (fst_bd h5 h7 hf).2.2.1; simpa using this, by simp⟩
    | succ i ih =>
      intro hi
      obtain ⟨h1, h2⟩ := ih (by omega)
      obtain ⟨_, h3⟩ := besL_mem (hbes i (by omega))
      rcases h3 with ⟨h3, _⟩ | ⟨_, h3⟩
      · omega
      · rw [h2] at h3
        refine ⟨by omega, ?_⟩
        exact ((grp_same h5 h7 (n := f) (m := f + ((i + 1 : Nat) : Int)) hf (by omega)).2 (by omega)).1
  have hlen : p + m ≤ fr.length := by have := (run (m - 1) (by omega)).1; omega
  have hok : okAt gs fr m p = true := by
    unfold okAt
    have h1 := (run (m - 1) (by omega)).2
    rw [show p + (m - 1) = p + m - 1 by omega] at h1
    have h2 := (group (m - 1) (by omega)).1
    rw [h1, hpf]
    simp
    omega
  have hE : bstE r gs tk m = 0 := by
    refine bst_of (by omega) ?_ ?_
    · have := (hfree (m - 1) (by omega)).2; omega
    · rw [hN, hfr]; omega
  obtain ⟨i, hi⟩ : ∃ i, tog gs fr m (fr.length - m + 1) = some i := by
    cases ht : tog gs fr m (fr.length - m + 1) with
    | some i => exact ⟨i, rfl⟩
    | none =>
      have := tog_some.tog_none gs fr m _ ht p (by omega)
      rw [hok] at this
      cases this
  obtain ⟨h1, h2, h3⟩ := tog_some gs fr m _ i hi
  have hip : i ≤ p := by
    rcases Nat.lt_or_ge p i with h | h
    · have := h3 p h; rw [hok] at this; cases this
    · exact h
  have hT : togI gs fr m = i := by unfold togI; rw [hi]; rfl
  have hB : bstL r gs tk m = bestL gs fr m := by unfold bstL; rw [if_pos hE, hN, hfr]; simp
  rw [hB]
  unfold okAt at h2
  simp only [Bool.and_eq_true, decide_eq_true_eq] at h2
  have hi0 : 0 ≤ fr.getD i 0 ∧ fr.getD i 0 < N := by
    have hx : fr.getD i 0 ∈ fr := by rw [List.getD_eq_getElem?_getD, List.getElem?_eq_getElem (by omega)]; exact List.getElem_mem _
    have := (hmem _).1 hx
    exact ⟨this.1, this.2.1⟩
  have each : ∀ j, j < m → fr.getD (i + j) 0 = fr.getD i 0 + j := by
    intro j hj
    have a1 := up_le hup (i := i) (j := i + j) (by omega) (by omega)
    have a2 := up_le hup (i := i + j) (j := i + m - 1) (by omega) (by omega)
    omega
  refine ⟨hE, fun j hj => ?_, ?_⟩
  · rw [best_at (by omega), best_at (by omega), hT, each j (by omega), each (j + 1) (by omega)]
    have hg := (grp_same h5 h7 (n := fr.getD i 0) (m := fr.getD i 0 + j) hi0.1 (by omega)).2 (by omega)
    have := besL_up (r := r) (gs := gs) (n := fr.getD i 0 + j) (by omega) ?_ (by rw [hg.1]; omega)
    · rw [show fr.getD i 0 + ((j + 1 : Nat) : Int) = fr.getD i 0 + j + 1 by omega]; exact this
    · have hx : fr.getD (i + j) 0 ∈ fr := by rw [List.getD_eq_getElem?_getD, List.getElem?_eq_getElem (by omega)]; exact List.getElem_mem _
      have := (hmem _).1 hx
      rw [each j (by omega)] at this
      omega
  · rw [best_at (by omega), hT, Nat.add_zero]
    have := up_le hup (i := i) (j := p) hip hp
    omega
end Go.Proofs.YtnmmpiddmckghaaDoor.Se
