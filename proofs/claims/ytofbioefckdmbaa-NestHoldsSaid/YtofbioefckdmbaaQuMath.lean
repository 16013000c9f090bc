/-
  Layer 9, the mathematics: groups, how many voters stand in a list, most of them, the middle, a number put in a rising list. No condition.
-/
import Derived.Test.YtofbioefckdmbaaFieldBase
namespace Go.Proofs.Ytofbioefckdmbaa.Qu
set_option linter.unusedVariables false

/-- numbers of nodes that rise, above b -/
def upN : Int → List Int → Bool
  | _, [] => true
  | b, n :: r => decide (b < n) && decide (n ≤ 15) && upN n r
theorem upN_snoc : ∀ (xs : List Int) (b c : Int), upN b (xs ++ [c]) = (upN b xs && (decide (xs.getLastD b < c) && decide (c ≤ 15)))
  | [], b, c => by simp [upN]
  | n :: r, b, c => by
    rw [List.cons_append, upN, upN, upN_snoc r n c]
    have : (n :: r).getLastD b = r.getLastD n := by cases r <;> simp [List.getLastD]
    rw [this]
    simp [Bool.and_assoc]
theorem take_succ (l : List Int) (k : Nat) (h : k < l.length) : l.take (k + 1) = l.take k ++ [l.getD k 0] := by
  rw [List.take_add_one, List.getElem?_eq_getElem h, List.getD_eq_getElem?_getD, List.getElem?_eq_getElem h]
  rfl
theorem last_snoc (xs : List Int) (b c : Int) : (xs ++ [c]).getLastD b = c := by simp [List.getLastD_eq_getLast?]
theorem upN_false : ∀ (xs ys : List Int) (b : Int), upN b xs = false → upN b (xs ++ ys) = false
  | [], _, _, h => by simp [upN] at h
  | n :: r, ys, b, h => by
    rw [upN] at h
    rw [List.cons_append, upN]
    cases h1 : (decide (b < n) && decide (n ≤ 15)) with
    | false => rfl
    | true =>
      rw [h1] at h
      rw [upN_false r ys n (by simpa using h)]
      rfl
theorem upN_cut (l : List Int) (b : Int) (k : Nat) (h : upN b (l.take k) = false) : upN b l = false := by
  have := upN_false _ (l.drop k) b h
  rwa [List.take_append_drop] at this
theorem last_at (l : List Int) (k : Nat) (hk : 0 < k) (hl : k ≤ l.length) : (l.take k).getLastD 0 = l.getD (k - 1) 0 := by
  obtain ⟨j, rfl⟩ : ∃ j, k = j + 1 := ⟨k - 1, by omega⟩
  rw [take_succ l j (by omega), last_snoc]
  rfl
theorem last_pos : ∀ (xs : List Int) (b : Int), 0 ≤ b → upN b xs = true → b ≤ xs.getLastD b ∧ (xs ≠ [] → b < xs.getLastD b)
  | [], b, _, _ => ⟨Int.le_refl _, fun h => absurd rfl h⟩
  | n :: r, b, hb, h => by
    rw [upN] at h
    simp only [Bool.and_eq_true, decide_eq_true_eq] at h
    have ih := last_pos r n (by omega) h.2
    have e : (n :: r).getLastD b = r.getLastD n := by cases r <;> simp [List.getLastD]
    rw [e]
    exact ⟨by omega, fun _ => by omega⟩
theorem upN_all : ∀ (l : List Int) (b : Int), upN b l = true → (∀ x ∈ l, b < x ∧ x ≤ 15) ∧ l.Pairwise (· < ·)
  | [], _, _ => ⟨by simp, List.Pairwise.nil⟩
  | n :: r, b, h => by
    rw [upN] at h
    simp only [Bool.and_eq_true, decide_eq_true_eq] at h
    obtain ⟨h1, h2⟩ := upN_all r n h.2
    refine ⟨fun x hx => ?_, List.pairwise_cons.2 ⟨fun x hx => (h1 x hx).1, h2⟩⟩
    rcases List.mem_cons.1 hx with rfl | hx
    · exact h.1
    · have := h1 x hx
      omega
theorem upN_of : ∀ (l : List Int) (b : Int), (∀ x ∈ l, b < x ∧ x ≤ 15) → l.Pairwise (· < ·) → upN b l = true
  | [], _, _, _ => rfl
  | n :: r, b, h1, h2 => by
    rw [List.pairwise_cons] at h2
    rw [upN]
    simp only [Bool.and_eq_true, decide_eq_true_eq]
    exact ⟨h1 n (by simp), upN_of r n (fun x hx => ⟨h2.1 x hx, (h1 x (by simp [hx])).2⟩) h2.2⟩
theorem upN_iff (l : List Int) (b : Int) : upN b l = true ↔ (∀ x ∈ l, b < x ∧ x ≤ 15) ∧ l.Pairwise (· < ·) := ⟨upN_all l b, fun h => upN_of l b h.1 h.2⟩
theorem upN_len : ∀ (l : List Int) (b : Int), upN b l = true → b ≤ 15 → (l.length : Int) ≤ 15 - b
  | [], b, _, hb => by simpa using hb
  | n :: r, b, h, hb => by
    rw [upN] at h
    simp only [Bool.and_eq_true, decide_eq_true_eq] at h
    have := upN_len r n h.2 h.1.2
    simp only [List.length_cons]
    omega

def hasI (l : List Int) (x : Int) : Bool := l.contains x
theorem has_take (l : List Int) (x : Int) (k : Nat) (h : k < l.length) : hasI (l.take (k + 1)) x = (hasI (l.take k) x || (x == l.getD k 0)) := by
  unfold hasI
  rw [take_succ l k h, Bool.eq_iff_iff]
  simp
theorem has_at (l : List Int) (x : Int) (k : Nat) (h : k < l.length) (hx : (x == l.getD k 0) = true) : hasI l x = true := by
  unfold hasI
  rw [List.contains_iff_mem, show x = l[k] by rw [List.getD_eq_getElem?_getD, List.getElem?_eq_getElem h] at hx; simpa using hx]
  exact List.getElem_mem h
theorem has_iff (l : List Int) (x : Int) : hasI l x = true ↔ x ∈ l := by unfold hasI; exact List.contains_iff_mem
theorem has_not (l : List Int) (x : Int) : hasI l x = false ↔ x ∉ l := by rw [← has_iff]; simp

/-- how many of vs stand in l -/
def cnt (vs l : List Int) : Nat := vs.countP (hasI l)
theorem cnt_take (vs l : List Int) (k : Nat) (h : k < vs.length) : cnt (vs.take (k + 1)) l = cnt (vs.take k) l + (if hasI l (vs.getD k 0) then 1 else 0) := by
  unfold cnt
  rw [take_succ vs k h, List.countP_append, List.countP_singleton]
theorem cnt_le (vs l : List Int) : cnt vs l ≤ vs.length := List.countP_le_length
theorem cntP_take (vs : List Int) (p : Int → Bool) (k : Nat) (h : k < vs.length) : (vs.take (k + 1)).countP p = (vs.take k).countP p + (if p (vs.getD k 0) then 1 else 0) := by
  rw [take_succ vs k h, List.countP_append, List.countP_singleton]
def grpOk (vs ls : List Int) : Bool := !(decide (vs.length = 0)) && upN 0 vs && upN 0 ls && !(vs.any fun x => hasI ls x)
theorem any_cnt (vs ls : List Int) : (vs.any fun x => hasI ls x) = decide (0 < cnt vs ls) := by
  rw [Bool.eq_iff_iff, List.any_eq_true, decide_eq_true_eq]
  unfold cnt
  rw [List.countP_pos_iff]
theorem grpOk_iff (vs ls : List Int) : grpOk vs ls = true ↔ vs ≠ [] ∧ upN 0 vs = true ∧ upN 0 ls = true ∧ ∀ x ∈ vs, x ∉ ls := by
  unfold grpOk
  simp only [Bool.and_eq_true, Bool.not_eq_true', decide_eq_false_iff_not, List.any_eq_false, and_assoc, List.length_eq_zero_iff]
  refine and_congr Iff.rfl (and_congr Iff.rfl (and_congr Iff.rfl ?_))
  constructor
  · intro h x hx hl; exact h x hx ((has_iff _ _).2 hl)
  · intro h x hx hl; exact h x hx ((has_iff _ _).1 hl)
def need (vs : List Int) : Nat := vs.length / 2 + 1
def winsG (vs ls l : List Int) : Bool := grpOk vs ls && decide (need vs ≤ cnt vs l)
def lostG (vs ls l : List Int) : Bool := grpOk vs ls && decide (vs.length - cnt vs l < need vs)

/-- two parts that are together more than all have one in common -/
theorem meet (l : List Int) (p q : Int → Bool) (h : l.length < l.countP p + l.countP q) : ∃ x ∈ l, p x = true ∧ q x = true := by
  induction l with
  | nil => simp at h
  | cons x r ih =>
    rw [List.countP_cons, List.countP_cons, List.length_cons] at h
    by_cases hp : p x = true
    · by_cases hq : q x = true
      · exact ⟨x, by simp, hp, hq⟩
      · obtain ⟨y, hy, h1⟩ := ih (by simp [hp, hq] at h; omega)
        exact ⟨y, by simp [hy], h1⟩
    · obtain ⟨y, hy, h1⟩ := ih (by simp [hp] at h; split at h <;> omega)
      exact ⟨y, by simp [hy], h1⟩

/-- a number put in where it rises -/
def insN (l : List Int) (n : Int) : List Int := l.takeWhile (fun x => decide (x < n)) ++ n :: l.dropWhile (fun x => decide (x < n))
def remN (l : List Int) (n : Int) : List Int := l.filter fun x => decide (x ≠ n)
theorem remN_take (l : List Int) (n : Int) (k : Nat) (h : k < l.length) : remN (l.take (k + 1)) n = remN (l.take k) n ++ (if l.getD k 0 = n then [] else [l.getD k 0]) := by
  unfold remN
  rw [take_succ l k h, List.filter_append]
  congr 1
  generalize l.getD k 0 = y
  by_cases hn : y = n <;> simp [hn]
theorem remN_len (l : List Int) (n : Int) : (remN l n).length ≤ l.length := List.length_filter_le _ _
theorem remN_none (l : List Int) (n : Int) (h : n ∉ l) : remN l n = l := by
  unfold remN
  rw [List.filter_eq_self]
  intro x hx
  simp
  rintro rfl
  exact h hx
theorem mem_remN (l : List Int) (n x : Int) : x ∈ remN l n ↔ x ∈ l ∧ x ≠ n := by simp [remN]
theorem mem_insN (l : List Int) (n x : Int) : x ∈ insN l n ↔ x = n ∨ x ∈ l := by
  unfold insN
  have := List.takeWhile_append_dropWhile (p := fun x => decide (x < n)) (l := l)
  constructor
  · intro h
    rcases List.mem_append.1 h with h | h
    · right; rw [← this]; exact List.mem_append.2 (.inl h)
    · rcases List.mem_cons.1 h with h | h
      · exact .inl h
      · right; rw [← this]; exact List.mem_append.2 (.inr h)
  · rintro (h | h)
    · rw [h]; simp
    · rw [← this] at h
      rcases List.mem_append.1 h with h | h
      · exact List.mem_append.2 (.inl h)
      · exact List.mem_append.2 (.inr (by simp [h]))
theorem insN_len (l : List Int) (n : Int) : (insN l n).length = l.length + 1 := by
  unfold insN
  have := congrArg List.length (List.takeWhile_append_dropWhile (p := fun x => decide (x < n)) (l := l))
  simp only [List.length_append, List.length_cons] at this ⊢
  omega
theorem tw_lt (l : List Int) (n : Int) (x : Int) (h : x ∈ l.takeWhile fun x => decide (x < n)) : x < n := by
  have := List.all_takeWhile (l := l) (p := fun x => decide (x < n))
  rw [List.all_eq_true] at this
  simpa using this x h
theorem dw_ge : ∀ (l : List Int) (n : Int), l.Pairwise (· < ·) → n ∉ l → ∀ x ∈ l.dropWhile (fun x => decide (x < n)), n < x
  | [], n, _, _ => by simp
  | a :: r, n, hp, hn => by
    rw [List.pairwise_cons] at hp
    simp only [List.mem_cons, not_or] at hn
    rw [List.dropWhile_cons]
    by_cases h : a < n
    · simp only [h, decide_true, if_true]
      exact dw_ge r n hp.2 hn.2
    · simp only [h, decide_false]
      intro x hx
      simp only [Bool.false_eq_true, if_false, List.mem_cons] at hx
      rcases hx with rfl | hx
      · omega
      · have := hp.1 x hx
        omega
theorem insN_up (l : List Int) (n : Int) (h : upN 0 l = true) (h1 : 0 < n) (h2 : n ≤ 15) (hn : n ∉ l) : upN 0 (insN l n) = true := by
  obtain ⟨ha, hp⟩ := (upN_iff l 0).1 h
  refine (upN_iff _ 0).2 ⟨fun x hx => ?_, ?_⟩
  · rcases (mem_insN l n x).1 hx with rfl | hx
    · exact ⟨h1, h2⟩
    · exact ha x hx
  · unfold insN
    have hs := hp
    rw [← List.takeWhile_append_dropWhile (p := fun x => decide (x < n)) (l := l), List.pairwise_append] at hs
    rw [List.pairwise_append, List.pairwise_cons]
    refine ⟨hs.1, ⟨fun x hx => dw_ge l n hp hn x hx, hs.2.1⟩, fun a ha b hb => ?_⟩
    rcases List.mem_cons.1 hb with rfl | hb
    · exact tw_lt l _ a ha
    · exact hs.2.2 a ha b hb
theorem remN_up (l : List Int) (n : Int) (h : upN 0 l = true) : upN 0 (remN l n) = true := by
  obtain ⟨ha, hp⟩ := (upN_iff l 0).1 h
  exact (upN_iff _ 0).2 ⟨fun x hx => ha x ((mem_remN l n x).1 hx).1, hp.filter _⟩
theorem remN_insN (l : List Int) (n : Int) (h : n ∉ l) : remN (insN l n) n = l := by
  have hl := List.takeWhile_append_dropWhile (p := fun x => decide (x < n)) (l := l)
  unfold insN remN
  rw [List.filter_append, List.filter_cons]
  simp only [ne_eq, not_true_eq_false, decide_false, Bool.false_eq_true, if_false]
  rw [← List.filter_append, hl]
  exact remN_none l n h
theorem insN_count (l : List Int) (n : Int) (p : Int → Bool) : (insN l n).countP p = l.countP p + (if p n then 1 else 0) := by
  have hl := congrArg (List.countP p) (List.takeWhile_append_dropWhile (p := fun x => decide (x < n)) (l := l))
  rw [List.countP_append] at hl
  unfold insN
  rw [List.countP_append, List.countP_cons]
  omega
theorem remN_count : ∀ (l : List Int) (n : Int) (p : Int → Bool), l.Pairwise (· < ·) → l.countP p ≤ (remN l n).countP p + 1
  | [], _, _, _ => by simp
  | a :: r, n, p, h => by
    rw [List.pairwise_cons] at h
    by_cases ha : a = n
    · subst ha
      have e : remN (a :: r) a = r := by
        unfold remN
        rw [List.filter_cons]
        simp only [ne_eq, not_true_eq_false, decide_false, Bool.false_eq_true, if_false]
        exact remN_none r a (fun hm => by have := h.1 a hm; omega)
      rw [e, List.countP_cons]
      split <;> omega
    · have e : remN (a :: r) n = a :: remN r n := by
        unfold remN
        rw [List.filter_cons]
        simp [ha]
      rw [e, List.countP_cons, List.countP_cons]
      have := remN_count r n p h.2
      omega
theorem remN_length : ∀ (l : List Int) (n : Int), l.Pairwise (· < ·) → n ∈ l → (remN l n).length + 1 = l.length
  | [], _, _, h => by simp at h
  | a :: r, n, hp, hm => by
    rw [List.pairwise_cons] at hp
    by_cases ha : a = n
    · subst ha
      have e : remN (a :: r) a = r := by
        unfold remN
        rw [List.filter_cons]
        simp only [ne_eq, not_true_eq_false, decide_false, Bool.false_eq_true, if_false]
        exact remN_none r a (fun hm => by have := hp.1 a hm; omega)
      rw [e]
      rfl
    · have e : remN (a :: r) n = a :: remN r n := by
        unfold remN
        rw [List.filter_cons]
        simp [ha]
      rw [e, List.length_cons, List.length_cons, remN_length r n hp.2 (by simpa [Ne.symm ha] using hm)]

/-- the middle of some numbers: most have at least that, and no most more -/
def IsMid (N : Nat) (xs : List Int) (m : Int) : Prop := m ∈ xs ∧ N ≤ xs.countP (fun x => decide (m ≤ x)) ∧ xs.countP (fun x => decide (m < x)) < N
theorem IsMid.unique {N : Nat} {xs : List Int} {a b : Int} (ha : IsMid N xs a) (hb : IsMid N xs b) : a = b := by
  have key : ∀ a b : Int, IsMid N xs a → IsMid N xs b → ¬ a < b := by
    intro a b ha hb h
    have h1 := ha.2.2
    have h2 := hb.2.1
    have : xs.countP (fun x => decide (b ≤ x)) ≤ xs.countP (fun x => decide (a < x)) := List.countP_mono_left (fun x _ hx => by simp at hx ⊢; omega)
    omega
  have h1 := key a b ha hb
  have h2 := key b a hb ha
  omega
def srt (xs : List Int) : List Int := xs.mergeSort fun x y => decide (x ≤ y)
theorem srt_pair (xs : List Int) : (srt xs).Pairwise (· ≤ ·) := by
  have := List.pairwise_mergeSort (le := fun x y : Int => decide (x ≤ y)) (fun a b c h1 h2 => by simp at *; omega) (fun a b => by simp; omega) xs
  exact this.imp (fun h => by simpa using h)
theorem srt_perm (xs : List Int) : (srt xs).Perm xs := List.mergeSort_perm _ _
theorem srt_len (xs : List Int) : (srt xs).length = xs.length := (srt_perm xs).length_eq
theorem sorted_le (s : List Int) (h : s.Pairwise (· ≤ ·)) (i j : Nat) (hij : i ≤ j) (hj : j < s.length) : s.getD i 0 ≤ s.getD j 0 := by
  rw [List.getD_eq_getElem?_getD, List.getD_eq_getElem?_getD, List.getElem?_eq_getElem hj, List.getElem?_eq_getElem (by omega : i < s.length)]
  rcases Nat.lt_or_eq_of_le hij with h1 | rfl
  · exact List.pairwise_iff_getElem.1 h i j (by omega) hj h1
  · exact Int.le_refl _
theorem mid_sorted (s : List Int) (h : s.Pairwise (· ≤ ·)) (N : Nat) (h0 : 0 < N) (hN : N ≤ s.length) : IsMid N s (s.getD (s.length - N) 0) := by
  have hlt : s.length - N < s.length := by omega
  refine ⟨?_, ?_, ?_⟩
  · rw [List.getD_eq_getElem?_getD, List.getElem?_eq_getElem hlt]
    exact List.getElem_mem _
  · have e : s.countP (fun x => decide (s.getD (s.length - N) 0 ≤ x)) = (s.take (s.length - N)).countP (fun x => decide (s.getD (s.length - N) 0 ≤ x)) + (s.drop (s.length - N)).countP (fun x => decide (s.getD (s.length - N) 0 ≤ x)) := by
      rw [← List.countP_append, List.take_append_drop]
    have a : (s.drop (s.length - N)).countP (fun x => decide (s.getD (s.length - N) 0 ≤ x)) = (s.drop (s.length - N)).length := by
      rw [List.countP_eq_length]
      intro x hx
      obtain ⟨i, hi, rfl⟩ := List.getElem_of_mem hx
      rw [List.length_drop] at hi
      rw [List.getElem_drop]
      have := sorted_le s h (s.length - N) (s.length - N + i) (by omega) (by omega)
      rw [List.getD_eq_getElem?_getD (i := s.length - N + i), List.getElem?_eq_getElem (by omega : s.length - N + i < s.length)] at this
      simpa using this
    rw [e, a, List.length_drop]
    omega
  · have e : s.countP (fun x => decide (s.getD (s.length - N) 0 < x)) = (s.take (s.length - N + 1)).countP (fun x => decide (s.getD (s.length - N) 0 < x)) + (s.drop (s.length - N + 1)).countP (fun x => decide (s.getD (s.length - N) 0 < x)) := by
      rw [← List.countP_append, List.take_append_drop]
    have a : (s.take (s.length - N + 1)).countP (fun x => decide (s.getD (s.length - N) 0 < x)) = 0 := by
      rw [List.countP_eq_zero]
      intro x hx
      obtain ⟨i, hi, rfl⟩ := List.getElem_of_mem hx
      rw [List.length_take] at hi
      rw [List.getElem_take]
      have := sorted_le s h i (s.length - N) (by omega) (by omega)
      rw [List.getD_eq_getElem?_getD (i := i), List.getElem?_eq_getElem (by omega : i < s.length)] at this
      simp at this ⊢
      omega
    have b : (s.drop (s.length - N + 1)).countP (fun x => decide (s.getD (s.length - N) 0 < x)) ≤ (s.drop (s.length - N + 1)).length := List.countP_le_length
    rw [List.length_drop] at b
    rw [e, a]
    omega
theorem IsMid.perm {N : Nat} {a b : List Int} {m : Int} (h : IsMid N a m) (hp : a.Perm b) : IsMid N b m := ⟨hp.mem_iff.1 h.1, by rw [← hp.countP_eq]; exact h.2.1, by rw [← hp.countP_eq]; exact h.2.2⟩
def midOf (xs : List Int) (N : Nat) : Int := (srt xs).getD (xs.length - N) 0
theorem mid_is (xs : List Int) (N : Nat) (h0 : 0 < N) (hN : N ≤ xs.length) : IsMid N xs (midOf xs N) := by
  have := mid_sorted (srt xs) (srt_pair xs) N h0 (by rw [srt_len]; exact hN)
  rw [srt_len] at this
  exact this.perm (srt_perm xs)
/-- the document's own search: the greatest of those that enough have -/
def bestTo (N : Nat) (xs : List Int) : List Int → Int × Bool
  | [] => (0, false)
  | x :: r =>
    let q := bestTo N xs r
    if N ≤ xs.countP (fun y => decide (x ≤ y)) ∧ (q.2 = false ∨ q.1 < x) then (x, true) else q
/-- one more, behind -/
def bStep (N : Nat) (xs : List Int) (q : Int × Bool) (x : Int) : Int × Bool :=
  if N ≤ xs.countP (fun y => decide (x ≤ y)) ∧ (q.2 = false ∨ q.1 < x) then (x, true) else q
def best (N : Nat) (xs ys : List Int) : Int × Bool := ys.foldl (bStep N xs) (0, false)
theorem best_snoc (N : Nat) (xs ys : List Int) (x : Int) : best N xs (ys ++ [x]) = bStep N xs (best N xs ys) x := by simp [best]
theorem best_take (N : Nat) (xs ys : List Int) (k : Nat) (h : k < ys.length) : best N xs (ys.take (k + 1)) = bStep N xs (best N xs (ys.take k)) (ys.getD k 0) := by
  rw [take_succ ys k h, best_snoc]
theorem best_inv (N : Nat) (xs : List Int) : ∀ (ys : List Int), (∀ y ∈ ys, y ∈ xs) → ∀ q : Int × Bool, (q.2 = true → q.1 ∈ xs ∧ N ≤ xs.countP (fun y => decide (q.1 ≤ y))) →
    ((ys.foldl (bStep N xs) q).2 = true → (ys.foldl (bStep N xs) q).1 ∈ xs ∧ N ≤ xs.countP (fun y => decide ((ys.foldl (bStep N xs) q).1 ≤ y))) ∧
    (∀ y ∈ ys, N ≤ xs.countP (fun z => decide (y ≤ z)) → (ys.foldl (bStep N xs) q).2 = true ∧ y ≤ (ys.foldl (bStep N xs) q).1) ∧
    (q.2 = true → (ys.foldl (bStep N xs) q).2 = true ∧ q.1 ≤ (ys.foldl (bStep N xs) q).1)
  | [], _, q, hq => ⟨hq, by simp, fun h => ⟨h, Int.le_refl _⟩⟩
  | x :: r, hm, q, hq => by
    rw [List.foldl_cons]
    have hq' : (bStep N xs q x).2 = true → (bStep N xs q x).1 ∈ xs ∧ N ≤ xs.countP (fun y => decide ((bStep N xs q x).1 ≤ y)) := by
      unfold bStep
      split
      · rename_i hc; intro _; exact ⟨hm x (by simp), hc.1⟩
      · exact hq
    obtain ⟨a, b, c⟩ := best_inv N xs r (fun y hy => hm y (by simp [hy])) (bStep N xs q x) hq'
    have up : (N ≤ xs.countP (fun z => decide (x ≤ z)) → (bStep N xs q x).2 = true ∧ x ≤ (bStep N xs q x).1) ∧ (q.2 = true → (bStep N xs q x).2 = true ∧ q.1 ≤ (bStep N xs q x).1) := by
      unfold bStep
      split
      · rename_i hc
        refine ⟨fun _ => ⟨rfl, Int.le_refl _⟩, fun h => ⟨rfl, ?_⟩⟩
        rcases hc.2 with h2 | h2
        · rw [h] at h2; cases h2
        · exact Int.le_of_lt h2
      · rename_i hc
        refine ⟨fun hN => ?_, fun h => ⟨h, Int.le_refl _⟩⟩
        have : ¬ (q.2 = false ∨ q.1 < x) := fun h => hc ⟨hN, h⟩
        simp only [not_or, Bool.not_eq_false, Int.not_lt] at this
        exact this
    refine ⟨a, fun y hy hN => ?_, fun h => ?_⟩
    · rcases List.mem_cons.1 hy with rfl | hy
      · obtain ⟨u1, u2⟩ := up.1 hN
        obtain ⟨v1, v2⟩ := c u1
        exact ⟨v1, Int.le_trans u2 v2⟩
      · exact b y hy hN
    · obtain ⟨u1, u2⟩ := up.2 h
      obtain ⟨v1, v2⟩ := c u1
      exact ⟨v1, Int.le_trans u2 v2⟩
theorem best_mid (xs : List Int) (N : Nat) (h0 : 0 < N) (hN : N ≤ xs.length) : (best N xs xs).1 = midOf xs N := by
  have hm := mid_is xs N h0 hN
  obtain ⟨a, b, _⟩ := best_inv N xs xs (fun _ h => h) (0, false) (by simp)
  obtain ⟨u, v⟩ := b _ hm.1 hm.2.1
  obtain ⟨c, d⟩ := a u
  have : ¬ midOf xs N < (xs.foldl (bStep N xs) (0, false)).1 := by
    intro h
    have h1 := hm.2.2
    have : xs.countP (fun y => decide ((xs.foldl (bStep N xs) (0, false)).1 ≤ y)) ≤ xs.countP (fun x => decide (midOf xs N < x)) := List.countP_mono_left (fun x _ hx => by simp at hx ⊢; omega)
    omega
  show (xs.foldl (bStep N xs) (0, false)).1 = _
  omega
theorem mid_rises (f g : Int → Int) (vs : List Int) (N : Nat) (h0 : 0 < N) (hN : N ≤ vs.length) (h : ∀ v ∈ vs, f v ≤ g v) : midOf (vs.map f) N ≤ midOf (vs.map g) N := by
  have hf := mid_is (vs.map f) N h0 (by simpa using hN)
  have hg := mid_is (vs.map g) N h0 (by simpa using hN)
  have a := hf.2.1
  have b := hg.2.2
  rw [List.countP_map] at a b
  refine Int.not_lt.1 fun hlt => ?_
  have : vs.countP ((fun x => decide (midOf (vs.map f) N ≤ x)) ∘ f) ≤ vs.countP ((fun x => decide (midOf (vs.map g) N < x)) ∘ g) := List.countP_mono_left (fun x hx hy => by
    have := h x hx
    simp at hy ⊢
    omega)
  omega
theorem mid_same (c : Int) (xs : List Int) (N : Nat) (h0 : 0 < N) (hN : N ≤ xs.length) (h : ∀ x ∈ xs, x = c) : midOf xs N = c := h _ (mid_is xs N h0 hN).1

/-- what the document's own 'with' makes, one number behind the other -/
def wStep (n : Int) (q : List Int × Bool) (x : Int) : List Int × Bool := if q.2 = false ∧ n < x then (q.1 ++ [n, x], true) else (q.1 ++ [x], q.2)
def wFold (n : Int) (l : List Int) : List Int × Bool := l.foldl (wStep n) ([], false)
def wEnd (n : Int) (q : List Int × Bool) : List Int := if q.2 then q.1 else q.1 ++ [n]
theorem wFold_take (n : Int) (l : List Int) (k : Nat) (h : k < l.length) : wFold n (l.take (k + 1)) = wStep n (wFold n (l.take k)) (l.getD k 0) := by
  rw [take_succ l k h]; simp [wFold]
theorem wFold_more (n : Int) : ∀ (l : List Int) (a : List Int), l.foldl (wStep n) (a, true) = (a ++ l, true)
  | [], a => by simp
  | x :: r, a => by rw [List.foldl_cons]; simp [wStep, wFold_more n r]
theorem wFold_len (n : Int) : ∀ (l : List Int) (q : List Int × Bool), (l.foldl (wStep n) q).1.length ≤ q.1.length + 2 * l.length
  | [], q => by simp
  | x :: r, q => by
    rw [List.foldl_cons]
    have a := wFold_len n r (wStep n q x)
    have b : (wStep n q x).1.length ≤ q.1.length + 2 := by unfold wStep; split <;> simp
    rw [List.length_cons]
    omega
theorem wFold_ins (n : Int) : ∀ (l : List Int) (a : List Int), l.Pairwise (· < ·) → n ∉ l → wEnd n (l.foldl (wStep n) (a, false)) = a ++ insN l n
  | [], a, _, _ => by simp [wEnd, insN]
  | x :: r, a, hp, hn => by
    rw [List.pairwise_cons] at hp
    simp only [List.mem_cons, not_or] at hn
    rw [List.foldl_cons]
    by_cases h : n < x
    · have e : wStep n (a, false) x = (a ++ [n, x], true) := by simp [wStep, h]
      rw [e, wFold_more]
      simp [wEnd, insN, show ¬ x < n by omega]
    · have e : wStep n (a, false) x = (a ++ [x], false) := by simp [wStep, h]
      rw [e, wFold_ins n r (a ++ [x]) hp.2 hn.2]
      simp [insN, show x < n by omega]
theorem with_ins (n : Int) (l : List Int) (hp : l.Pairwise (· < ·)) (hn : n ∉ l) : wEnd n (wFold n l) = insN l n := by
  have := wFold_ins n l [] hp hn
  simpa [wFold] using this
/-- where the search finds the place -/
theorem count_take : ∀ (l : List Int) (n : Int), l.Pairwise (· < ·) → l.take (l.countP fun x => decide (x < n)) = l.takeWhile (fun x => decide (x < n)) ∧ l.drop (l.countP fun x => decide (x < n)) = l.dropWhile (fun x => decide (x < n))
  | [], n, _ => by simp
  | a :: r, n, h => by
    rw [List.pairwise_cons] at h
    obtain ⟨e1, e2⟩ := count_take r n h.2
    rw [List.countP_cons, List.takeWhile_cons, List.dropWhile_cons]
    by_cases ha : a < n
    · simp [ha, e1, e2]
    · have : r.countP (fun x => decide (x < n)) = 0 := by
        rw [List.countP_eq_zero]
        intro x hx
        have := h.1 x hx
        simp
        omega
      simp [ha, this]
end Go.Proofs.Ytofbioefckdmbaa.Qu
