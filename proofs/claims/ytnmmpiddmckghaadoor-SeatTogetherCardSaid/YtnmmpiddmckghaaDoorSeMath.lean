/-
  Layer 13, the mathematics: layouts, the group of a seat, names, free seats, the best ones. No condition.
-/
import Derived.Test.YtnmmpiddmckghaaDoorQuMath
namespace Go.Proofs.YtnmmpiddmckghaaDoor.Se
open Go.Proofs.YtnmmpiddmckghaaDoor.Qu Go.Proofs.YtnmmpiddmckghaaDoor.Fld
set_option linter.unusedVariables false

/-- the sizes may be -/
def szOk (gs : List Int) : Bool := gs.all fun x => decide (1 ≤ x) && decide (x ≤ 10)
def layOk (r : Int) (gs : List Int) : Bool := decide (1 ≤ r) && decide (r ≤ 60) && decide (1 ≤ gs.length) && decide (gs.length ≤ 4) && szOk gs && decide (gs.sum ≤ 10)
def pre (gs : List Int) (k : Nat) : Int := (gs.take k).sum
theorem pre_zero (gs : List Int) : pre gs 0 = 0 := rfl
theorem pre_succ (gs : List Int) (k : Nat) (h : k < gs.length) : pre gs (k + 1) = pre gs k + gs.getD k 0 := by
  unfold pre
  rw [take_succ gs k h, List.sum_append]
  simp
theorem pre_all (gs : List Int) : pre gs gs.length = gs.sum := by unfold pre; rw [List.take_length]
theorem sz_at {gs : List Int} (h : szOk gs = true) (k : Nat) (hk : k < gs.length) : 1 ≤ gs.getD k 0 ∧ gs.getD k 0 ≤ 10 := by
  unfold szOk at h
  rw [List.all_eq_true] at h
  have := h gs[k] (List.getElem_mem hk)
  rw [List.getD_eq_getElem?_getD, List.getElem?_eq_getElem hk]
  simpa using this
theorem pre_bd {gs : List Int} (h : szOk gs = true) : ∀ k, k ≤ gs.length → (k : Int) ≤ pre gs k ∧ pre gs k ≤ 10 * k
  | 0, _ => by simp [pre_zero]
  | k + 1, hk => by
    have := pre_bd h k (by omega)
    have := sz_at h k (by omega)
    rw [pre_succ gs k (by omega)]
    omega
theorem pre_mono {gs : List Int} (h : szOk gs = true) : ∀ d k, k + d ≤ gs.length → pre gs k + d ≤ pre gs (k + d)
  | 0, k, _ => by simp
  | d + 1, k, hk => by
    have := pre_mono h d k (by omega)
    have := sz_at h (k + d) (by omega)
    rw [show k + (d + 1) = (k + d) + 1 by omega, pre_succ gs (k + d) (by omega)]
    omega
theorem pre_le {gs : List Int} (h : szOk gs = true) {i j : Nat} (hij : i ≤ j) (hj : j ≤ gs.length) : pre gs i ≤ pre gs j := by
  have := pre_mono h (j - i) i (by omega)
  rw [show i + (j - i) = j by omega] at this
  omega
theorem sum_pos {gs : List Int} (h : szOk gs = true) (hl : 1 ≤ gs.length) : 1 ≤ gs.sum := by
  have := (pre_bd h gs.length (Nat.le_refl _)).1
  rw [pre_all] at this
  omega
theorem sum_le {gs : List Int} (h : szOk gs = true) (hl : gs.length ≤ 4) : 0 ≤ gs.sum ∧ gs.sum ≤ 40 := by
  have := pre_bd h gs.length (Nat.le_refl _)
  rw [pre_all] at this
  omega

/-- the first group that ends behind a column, in a row -/
def gixF (gs : List Int) (c : Int) (k : Nat) : Prop := k < gs.length ∧ pre gs k ≤ c ∧ c < pre gs (k + 1)
theorem gix_one {gs : List Int} (h : szOk gs = true) {c : Int} {i j : Nat} (hi : gixF gs c i) (hj : gixF gs c j) : i = j := by
  rcases Nat.lt_trichotomy i j with h1 | h1 | h1
  · have := pre_le h (i := i + 1) (j := j) (by omega) (by have := hj.1; omega)
    have := hi.2.2; have := hj.2.1; omega
  · exact h1
  · have := pre_le h (i := j + 1) (j := i) (by omega) (by have := hi.1; omega)
    have := hj.2.2; have := hi.2.1; omega
theorem gix_ex {gs : List Int} (h : szOk gs = true) {c : Int} (h0 : 0 ≤ c) (h1 : c < gs.sum) : ∃ k, gixF gs c k := by
  have key : ∀ m, m ≤ gs.length → c < pre gs m → ∃ k, gixF gs c k := by
    intro m
    induction m with
    | zero => intro _ hc; rw [pre_zero] at hc; omega
    | succ m ih =>
      intro hm hc
      rcases Int.lt_or_le c (pre gs m) with h2 | h2
      · exact ih (by omega) h2
      · exact ⟨m, by omega, h2, hc⟩
  exact key gs.length (Nat.le_refl _) (by rw [pre_all]; exact h1)
/-- the group of a column -/
def gix (gs : List Int) (c : Int) : Nat := ((List.range gs.length).find? fun k => decide (c < pre gs (k + 1))).getD 0
theorem gix_is {gs : List Int} (h : szOk gs = true) {c : Int} (h0 : 0 ≤ c) (h1 : c < gs.sum) : gixF gs c (gix gs c) := by
  obtain ⟨k, hk⟩ := gix_ex h h0 h1
  unfold gix
  cases hf : (List.range gs.length).find? fun k => decide (c < pre gs (k + 1)) with
  | none =>
    rw [List.find?_eq_none] at hf
    have := hf k (by simp [hk.1])
    simp at this
    have := hk.2.2
    omega
  | some j =>
    have hj1 := List.find?_some hf
    have hj2 := List.mem_of_find?_eq_some hf
    simp at hj1 hj2
    refine ⟨hj2, ?_, hj1⟩
    show pre gs j ≤ c
    rcases Nat.lt_or_ge k j with h3 | h3
    · exfalso
      rw [List.find?_eq_some_iff_getElem] at hf
      obtain ⟨_, i, hi, he, hlt⟩ := hf
      simp at he hi
      subst he
      have := hlt k h3
      simp at this
      have := hk.2.2
      omega
    · have := pre_le h h3 (by have := hk.1; omega)
      have := hk.2.1
      omega
theorem gix_eq {gs : List Int} (h : szOk gs = true) {c : Int} {k : Nat} (hk : gixF gs c k) : gix gs c = k := by
  have h0 : 0 ≤ c := by have := (pre_bd h k (by have := hk.1; omega)).1; have := hk.2.1; omega
  have h1 : c < gs.sum := by have := pre_le h (i := k + 1) (j := gs.length) hk.1 (Nat.le_refl _); rw [pre_all] at this; have := hk.2.2; omega
  exact gix_one h (gix_is h h0 h1) hk

/-- a seat's group: its first seat, and the one behind its last; its number among all -/
def fst (gs : List Int) (n : Int) : Int := n - n % gs.sum + pre gs (gix gs (n % gs.sum))
def bhd (gs : List Int) (n : Int) : Int := n - n % gs.sum + pre gs (gix gs (n % gs.sum) + 1)
def grp (gs : List Int) (n : Int) : Int := n / gs.sum * gs.length + gix gs (n % gs.sum)
theorem split_at {S n : Int} (hS : 1 ≤ S) (hn : 0 ≤ n) : n = n / S * S + n % S ∧ 0 ≤ n % S ∧ n % S < S ∧ 0 ≤ n / S := by
  have h1 := Int.emod_nonneg n (show S ≠ 0 by omega)
  have h2 := Int.emod_lt_of_pos n (show 0 < S by omega)
  have h3 := Int.mul_ediv_add_emod n S
  have h4 := Int.ediv_nonneg hn (show 0 ≤ S by omega)
  rw [Int.mul_comm] at h3
  omega
theorem fst_bd {gs : List Int} (h : szOk gs = true) (hS : 1 ≤ gs.sum) {n : Int} (hn : 0 ≤ n) : 0 ≤ fst gs n ∧ fst gs n ≤ n ∧ n < bhd gs n ∧ n / gs.sum * gs.sum ≤ fst gs n ∧ bhd gs n ≤ (n / gs.sum + 1) * gs.sum := by
  obtain ⟨e, h0, h1, h2⟩ := split_at hS hn
  obtain ⟨g1, g2, g3⟩ := gix_is h h0 h1
  have h3 := (pre_bd h (gix gs (n % gs.sum)) (by omega)).1
  have h4 := pre_le h (i := gix gs (n % gs.sum) + 1) (j := gs.length) g1 (Nat.le_refl _)
  rw [pre_all] at h4
  have h5 : 0 ≤ n / gs.sum * gs.sum := Int.mul_nonneg h2 (by omega)
  have h6 : (n / gs.sum + 1) * gs.sum = n / gs.sum * gs.sum + gs.sum := by rw [Int.add_mul, Int.one_mul]
  unfold fst bhd
  omega
/-- two seats are of one group just if the later one stands ahead of what is behind the first one's -/
theorem grp_same {gs : List Int} (h : szOk gs = true) (hS : 1 ≤ gs.sum) {n m : Int} (hn : 0 ≤ n) (hm : n ≤ m) : (grp gs m = grp gs n ↔ m < bhd gs n) ∧ (m < bhd gs n → bhd gs m = bhd gs n ∧ fst gs m = fst gs n) := by
  obtain ⟨e, h0, h1, h2⟩ := split_at hS hn
  obtain ⟨e', h0', h1', h2'⟩ := split_at hS (show 0 ≤ m by omega)
  have G := gix_is h h0 h1
  have G' := gix_is h h0' h1'
  have hb := (fst_bd h hS hn).2.2.2.2
  have hq : n / gs.sum ≤ m / gs.sum := Int.ediv_le_ediv (by omega) hm
  rcases Int.lt_or_eq_of_le hq with hl | he
  · have h6 : (n / gs.sum + 1) * gs.sum ≤ m / gs.sum * gs.sum := Int.mul_le_mul_of_nonneg_right (by omega) (by omega)
    have h7 : ¬ m < bhd gs n := by omega
    refine ⟨⟨fun hg => ?_, fun hg => absurd hg h7⟩, fun hg => absurd hg h7⟩
    exfalso
    unfold grp at hg
    have h8 : (n / gs.sum + 1) * (gs.length : Int) ≤ m / gs.sum * gs.length := Int.mul_le_mul_of_nonneg_right (by omega) (by omega)
    have h9 : (n / gs.sum + 1) * (gs.length : Int) = n / gs.sum * gs.length + gs.length := by rw [Int.add_mul, Int.one_mul]
    have := G.1
    have := G'.1
    omega
  · have he2 : m / gs.sum * gs.sum = n / gs.sum * gs.sum := by rw [he]
    have key : m < bhd gs n → gix gs (m % gs.sum) = gix gs (n % gs.sum) := by
      intro hg
      unfold bhd at hg
      refine gix_eq h ⟨G.1, ?_, by omega⟩
      have := G.2.1
      omega
    refine ⟨⟨fun hg => ?_, fun hg => ?_⟩, fun hg => ?_⟩
    · have hg2 : gix gs (m % gs.sum) = gix gs (n % gs.sum) := by unfold grp at hg; rw [← he] at hg; omega
      unfold bhd
      have := G'.2.2
      rw [hg2] at this
      omega
    · unfold grp
      rw [key hg, he]
    · unfold bhd fst
      rw [key hg]
      omega
theorem grp_prev {gs : List Int} (h : szOk gs = true) (hS : 1 ≤ gs.sum) {n : Int} (hn : 0 < n) : (grp gs (n - 1) = grp gs n ↔ fst gs n < n) := by
  obtain ⟨h1, h2⟩ := grp_same h hS (n := n - 1) (m := n) (by omega) (by omega)
  rw [eq_comm, h1]
  constructor
  · intro hb
    have := (h2 hb).2
    have := (fst_bd h hS (n := n - 1) (by omega)).2.1
    omega
  · intro hf
    obtain ⟨e, h0, h1', h2'⟩ := split_at hS (show 0 ≤ n by omega)
    have G := gix_is h h0 h1'
    unfold fst at hf
    have hc : 0 < n % gs.sum := by have := (pre_bd h (gix gs (n % gs.sum)) (by have := G.1; omega)).1; omega
    have e1 : (n - 1) / gs.sum = n / gs.sum ∧ (n - 1) % gs.sum = n % gs.sum - 1 := by
      have := Int.ediv_emod_unique (a := n - 1) (b := gs.sum) (r := n % gs.sum - 1) (q := n / gs.sum) (by omega)
      exact this.2 ⟨by rw [Int.mul_comm]; omega, by omega, by omega⟩
    have G2 : gix gs (n % gs.sum - 1) = gix gs (n % gs.sum) := gix_eq h ⟨G.1, by omega, by have := G.2.2; omega⟩
    unfold bhd
    rw [e1.2, G2]
    have := G.2.2
    omega

def cntS (r : Int) (gs : List Int) : Int := if layOk r gs then r * gs.sum else 0
theorem lay_of {r : Int} {gs : List Int} (h : layOk r gs = true) : 1 ≤ r ∧ r ≤ 60 ∧ 1 ≤ gs.length ∧ gs.length ≤ 4 ∧ szOk gs = true ∧ gs.sum ≤ 10 ∧ 1 ≤ gs.sum := by
  unfold layOk at h
  simp only [Bool.and_eq_true, decide_eq_true_eq] at h
  obtain ⟨⟨⟨⟨⟨h1, h2⟩, h3⟩, h4⟩, h5⟩, h6⟩ := h
  exact ⟨h1, h2, h3, h4, h5, h6, sum_pos h5 h3⟩
theorem cnt_bd (r : Int) (gs : List Int) : 0 ≤ cntS r gs ∧ cntS r gs ≤ 600 := by
  unfold cntS
  cases h : layOk r gs with
  | false => simp
  | true =>
    obtain ⟨h1, h2, h3, h4, h5, h6, h7⟩ := lay_of h
    rw [if_pos rfl]
    have h8 : 0 ≤ r * gs.sum := Int.mul_nonneg (by omega) (by omega)
    have h9 : r * gs.sum ≤ 60 * 10 := Int.mul_le_mul h2 h6 (by omega) (by omega)
    omega
theorem lay_cnt {r : Int} {gs : List Int} {n : Int} (h0 : 0 ≤ n) (h1 : n < cntS r gs) : layOk r gs = true ∧ n < r * gs.sum := by
  unfold cntS at h1
  cases h : layOk r gs with
  | false => rw [h] at h1; simp at h1; omega
  | true => rw [h] at h1; exact ⟨rfl, by simpa using h1⟩
theorem row_lt {r : Int} {gs : List Int} {n : Int} (h0 : 0 ≤ n) (h1 : n < cntS r gs) : 0 ≤ n / gs.sum ∧ n / gs.sum < r ∧ 0 ≤ n % gs.sum ∧ n % gs.sum < gs.sum ∧ n = n / gs.sum * gs.sum + n % gs.sum := by
  obtain ⟨hl, h2⟩ := lay_cnt h0 h1
  obtain ⟨_, _, _, _, _, _, h7⟩ := lay_of hl
  obtain ⟨e, h3, h4, h5⟩ := split_at h7 h0
  exact ⟨h5, by rw [Int.ediv_lt_iff_lt_mul (by omega)]; exact h2, h3, h4, e⟩
theorem bhd_cnt {r : Int} {gs : List Int} {n : Int} (h0 : 0 ≤ n) (h1 : n < cntS r gs) : bhd gs n ≤ cntS r gs := by
  obtain ⟨hl, h2⟩ := lay_cnt h0 h1
  obtain ⟨_, _, _, _, h5, _, h7⟩ := lay_of hl
  have h3 := (row_lt h0 h1).2.1
  have h4 := (fst_bd h5 h7 h0).2.2.2.2
  have h6 : (n / gs.sum + 1) * gs.sum ≤ r * gs.sum := Int.mul_le_mul_of_nonneg_right (by omega) (by omega)
  unfold cntS
  rw [hl, if_pos rfl]
  omega

/-- who sits beside a seat -/
def besL (r : Int) (gs : List Int) (n : Int) : List Int :=
  if 0 ≤ n ∧ n < cntS r gs then (if fst gs n < n then [n - 1] else []) ++ (if n + 1 < bhd gs n then [n + 1] else []) else []
theorem besL_no {r : Int} {gs : List Int} {n : Int} (h : ¬ (0 ≤ n ∧ n < cntS r gs)) : besL r gs n = [] := by unfold besL; rw [if_neg h]
theorem besL_len (r : Int) (gs : List Int) (n : Int) : (besL r gs n).length ≤ 2 := by
  unfold besL
  split
  · split <;> split <;> simp
  · simp
theorem besL_mem {r : Int} {gs : List Int} {n m : Int} (h : m ∈ besL r gs n) : (0 ≤ n ∧ n < cntS r gs) ∧ (m = n - 1 ∧ fst gs n < n ∨ m = n + 1 ∧ n + 1 < bhd gs n) := by
  unfold besL at h
  split at h
  · rename_i hr
    refine ⟨hr, ?_⟩
    rw [List.mem_append] at h
    rcases h with h | h
    · split at h
      · rename_i h2; simp at h; exact .inl ⟨h, h2⟩
      · simp at h
    · split at h
      · rename_i h2; simp at h; exact .inr ⟨h, h2⟩
      · simp at h
  · simp at h
theorem besL_up {r : Int} {gs : List Int} {n : Int} (h0 : 0 ≤ n) (h1 : n < cntS r gs) (h : n + 1 < bhd gs n) : n + 1 ∈ besL r gs n := by
  unfold besL
  rw [if_pos ⟨h0, h1⟩, if_pos h]
  simp
theorem besL_down {r : Int} {gs : List Int} {n : Int} (h0 : 0 ≤ n) (h1 : n < cntS r gs) (h : fst gs n < n) : n - 1 ∈ besL r gs n := by
  unfold besL
  rw [if_pos ⟨h0, h1⟩, if_pos h]
  simp
theorem besL_back {r : Int} {gs : List Int} {n m : Int} (h : m ∈ besL r gs n) : n ∈ besL r gs m ∧ m ≠ n := by
  obtain ⟨⟨h0, h1⟩, h2⟩ := besL_mem h
  obtain ⟨hl, _⟩ := lay_cnt h0 h1
  obtain ⟨_, _, _, _, h5, _, h7⟩ := lay_of hl
  rcases h2 with ⟨rfl, h2⟩ | ⟨rfl, h2⟩
  · refine ⟨?_, by omega⟩
    have h3 := (fst_bd h5 h7 h0).1
    have h4 := ((grp_same h5 h7 (n := n - 1) (m := n) (by omega) (by omega)).1).1 ((grp_prev h5 h7 (by omega)).2 h2).symm
    have := besL_up (r := r) (gs := gs) (n := n - 1) (by omega) (by omega) (by rw [show n - 1 + 1 = n by omega]; exact h4)
    rwa [show n - 1 + 1 = n by omega] at this
  · refine ⟨?_, by omega⟩
    have h3 := bhd_cnt h0 h1
    have h4 := ((grp_same h5 h7 (n := n) (m := n + 1) h0 (by omega)).2 h2).2
    have h6 := (fst_bd h5 h7 h0).2.1
    have := besL_down (r := r) (gs := gs) (n := n + 1) (by omega) (by omega) (by omega)
    rwa [show n + 1 - 1 = n by omega] at this
/-- the document's words for the same -/
theorem besL_doc {r : Int} {gs : List Int} {n : Int} (h0 : 0 ≤ n) (h1 : n < cntS r gs) :
    (decide (0 < n) && decide (grp gs (n - 1) = grp gs n)) = decide (fst gs n < n) ∧ (decide (n + 1 < cntS r gs) && decide (grp gs (n + 1) = grp gs n)) = decide (n + 1 < bhd gs n) := by
  obtain ⟨hl, _⟩ := lay_cnt h0 h1
  obtain ⟨_, _, _, _, h5, _, h7⟩ := lay_of hl
  have hf := fst_bd h5 h7 h0
  constructor
  · rcases Int.lt_or_eq_of_le h0 with hp | he
    · rw [decide_eq_true hp, Bool.true_and, decide_eq_decide]
      exact grp_prev h5 h7 hp
    · subst he
      simp
      omega
  · have hb := bhd_cnt h0 h1
    rw [decide_eq_decide.2 (grp_same h5 h7 (n := n) (m := n + 1) h0 (by omega)).1]
    by_cases hc : n + 1 < cntS r gs
    · rw [decide_eq_true hc, Bool.true_and]
    · rw [decide_eq_false hc, Bool.false_and]
      symm
      simp
      omega
end Go.Proofs.YtnmmpiddmckghaaDoor.Se
