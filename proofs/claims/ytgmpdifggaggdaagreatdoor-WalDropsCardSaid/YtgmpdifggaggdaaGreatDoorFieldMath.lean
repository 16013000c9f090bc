/-
  The plain mathematics of layer 2: the digits of a number in base 256, the codes of numbers, whole numbers and texts, what a reader cuts off, and that each undoes the other. No condition but those that each theorem states.
-/
import Derived.Lib.BitFns
namespace Go.Proofs.YtgmpdifggaggdaaGreatDoor.Fld

def Bytes (zs : List Int) : Prop := ∀ c ∈ zs, 0 ≤ c ∧ c ≤ 255
theorem bytes_nil : Bytes [] := fun c hc => by simp at hc
theorem bytes_append {xs ys : List Int} (hx : Bytes xs) (hy : Bytes ys) : Bytes (xs ++ ys) := by
  intro c hc
  rw [List.mem_append] at hc
  rcases hc with h | h
  · exact hx c h
  · exact hy c h
theorem bytes_cons {c : Int} {ys : List Int} (h0 : 0 ≤ c) (h1 : c ≤ 255) (hy : Bytes ys) : Bytes (c :: ys) := by
  intro d hd
  rcases List.mem_cons.1 hd with rfl | h
  · exact ⟨h0, h1⟩
  · exact hy d h
theorem bytes_drop {xs : List Int} (h : Bytes xs) (k : Nat) : Bytes (xs.drop k) := fun c hc => h c (List.mem_of_mem_drop hc)
theorem bytes_take {xs : List Int} (h : Bytes xs) (k : Nat) : Bytes (xs.take k) := fun c hc => h c (List.mem_of_mem_take hc)
theorem bytes_zeros (k : Nat) : Bytes (List.replicate k 0) := fun c hc => by
  have := List.eq_of_mem_replicate hc
  omega

/-- the digits of n in base 256, the greatest first -/
def digs (n : Nat) : List Int := if n = 0 then [] else digs (n / 256) ++ [((n % 256 : Nat) : Int)]
termination_by n
decreasing_by omega
theorem digs_zero : digs 0 = [] := by rw [digs]; simp
theorem digs_pos (n : Nat) (h : 0 < n) : digs n = digs (n / 256) ++ [((n % 256 : Nat) : Int)] := by
  conv => lhs; rw [digs]
  rw [if_neg (by omega)]
theorem digs_bytes (n : Nat) : Bytes (digs n) := by
  induction n using Nat.strongRecOn with
  | ind n ih =>
    rcases Nat.eq_zero_or_pos n with rfl | h
    · rw [digs_zero]; exact bytes_nil
    · rw [digs_pos n h]
      exact bytes_append (ih _ (by omega)) (bytes_cons (by omega) (by omega) bytes_nil)
theorem digs_len (n : Nat) (h : 0 < n) : (digs n).length = (digs (n / 256)).length + 1 := by rw [digs_pos n h]; simp
theorem digs_len_le : ∀ (k n : Nat), n < 256 ^ k → (digs n).length ≤ k
  | 0, n, h => by
    have : n = 0 := by simpa using h
    rw [this, digs_zero]; simp
  | k + 1, n, h => by
    rcases Nat.eq_zero_or_pos n with rfl | hp
    · rw [digs_zero]; simp
    · have := digs_len_le k (n / 256) (by rw [Nat.pow_succ] at h; omega)
      rw [digs_len n hp]; omega
theorem digs_len8 (n : Nat) (h : n < 18446744073709551616) : (digs n).length ≤ 8 := digs_len_le 8 n (by simpa using h)
theorem digs_len_pos (n : Nat) (h : 0 < (digs n).length) : 0 < n := by
  rcases Nat.eq_zero_or_pos n with rfl | hp
  · rw [digs_zero] at h; simp at h
  · exact hp

/-- the number whose digits are l -/
def val (l : List Int) : Nat := l.foldl (fun a c => a * 256 + c.toNat) 0
theorem val_nil : val [] = 0 := rfl
theorem val_snoc (l : List Int) (c : Int) : val (l ++ [c]) = val l * 256 + c.toNat := by simp [val]
theorem val_digs (n : Nat) : val (digs n) = n := by
  induction n using Nat.strongRecOn with
  | ind n ih =>
    rcases Nat.eq_zero_or_pos n with rfl | h
    · rw [digs_zero]; rfl
    · rw [digs_pos n h, val_snoc, ih _ (by omega)]
      omega
theorem val_lt : ∀ (k : Nat) (l : List Int), l.length = k → Bytes l → val l < 256 ^ k
  | 0, l, h, _ => by
    have : l = [] := List.eq_nil_of_length_eq_zero h
    rw [this]; simp [val]
  | k + 1, l, h, hb => by
    obtain ⟨l', c, rfl⟩ : ∃ l' c, l = l' ++ [c] := ⟨l.dropLast, l.getLast (by intro e; rw [e] at h; simp at h), (List.dropLast_concat_getLast _).symm⟩
    have h1 := val_lt k l' (by simpa using h) (fun d hd => hb d (by simp [hd]))
    have h2 := hb c (by simp)
    rw [val_snoc, Nat.pow_succ]
    omega
theorem digs_val : ∀ (k : Nat) (l : List Int), l.length = k → Bytes l → (k = 0 ∨ l.getD 0 0 ≠ 0) → digs (val l) = l
  | 0, l, h, _, _ => by
    have : l = [] := List.eq_nil_of_length_eq_zero h
    rw [this, val_nil, digs_zero]
  | k + 1, l, h, hb, hz => by
    obtain ⟨l', c, rfl⟩ : ∃ l' c, l = l' ++ [c] := ⟨l.dropLast, l.getLast (by intro e; rw [e] at h; simp at h), (List.dropLast_concat_getLast _).symm⟩
    have hl : l'.length = k := by simpa using h
    have hb' : Bytes l' := fun d hd => hb d (by simp [hd])
    have hc := hb c (by simp)
    have hz' : l'.getD 0 0 ≠ 0 ∨ k = 0 := by
      rcases Nat.eq_zero_or_pos k with h0 | h0
      · exact .inr h0
      · left
        rcases hz with hz | hz
        · omega
        · rw [List.getD_eq_getElem?_getD, List.getElem?_append_left (by omega), ← List.getD_eq_getElem?_getD] at hz
          exact hz
    have ih := digs_val k l' hl hb' hz'.symm
    have hpos : 0 < val (l' ++ [c]) := by
      rw [val_snoc]
      rcases Nat.eq_zero_or_pos k with h0 | h0
      · have : l' = [] := List.eq_nil_of_length_eq_zero (by omega)
        subst this
        rcases hz with hz | hz
        · omega
        · simp at hz
          omega
      · have : 0 < val l' := digs_len_pos _ (by rw [ih]; omega)
        omega
    rw [digs_pos _ hpos, val_snoc]
    have e1 : (val l' * 256 + c.toNat) / 256 = val l' := by omega
    have e2 : (((val l' * 256 + c.toNat) % 256 : Nat) : Int) = c := by omega
    rw [e1, e2, ih]

theorem size_eq (n : Nat) (h : n < 18446744073709551616) : (Lib.bitLen n + 7) / 8 = (digs n).length ∧ Lib.bitLen n ≤ 64 := by
  induction n using Nat.strongRecOn with
  | ind n ih =>
    rcases Nat.lt_or_ge n 256 with h1 | h1
    · have h2 := Lib.bitLen_le8 ⟨n, h1⟩
      simp only at h2
      rcases Nat.eq_zero_or_pos n with rfl | hp
      · rw [digs_zero]; decide
      · rw [digs_len n hp, show n / 256 = 0 by omega, digs_zero]
        have h3 := Lib.bitLen_half n (by omega) (by omega)
        simp only [List.length_nil]
        omega
    · have h2 := Lib.bitLen_shift 8 n (by omega) (by omega)
      rw [show (2 : Nat) ^ 8 = 256 from rfl] at h2
      have h3 := ih (n / 256) (by omega) (by omega)
      rw [digs_len n (by omega)]
      refine ⟨by omega, ?_⟩
      have h4 := digs_len_le 7 (n / 256) (by omega)
      omega

/-- the code of a number -/
def code (n : Nat) : List Int := ((digs n).length : Int) :: digs n
theorem code_len (n : Nat) : (code n).length = (digs n).length + 1 := by simp [code]
theorem code_bytes (n : Nat) (h : n < 18446744073709551616) : Bytes (code n) := by
  have := digs_len8 n h
  exact bytes_cons (by omega) (by omega) (digs_bytes n)
theorem code_inj (a b : Nat) (h : code a = code b) : a = b := by
  injection h with _ h
  rw [← val_digs a, h, val_digs]
/-- the code of a whole number -/
def intC (x : Int) : List Int := if 0 ≤ x then code x.toNat else (((digs (-x).toNat).length : Int) + 16) :: digs (-x).toNat
theorem intC_pos (x : Int) (h : 0 ≤ x) : intC x = code x.toNat := by rw [intC, if_pos h]
theorem intC_neg (x : Int) (h : x < 0) : intC x = (((digs (-x).toNat).length : Int) + 16) :: digs (-x).toNat := by rw [intC, if_neg (by omega)]
theorem intC_set (x : Int) (h : x < 0) : intC x = (code (-x).toNat).set 0 (((digs (-x).toNat).length : Int) + 16) := by rw [intC_neg x h]; rfl
theorem intC_len (x : Int) : (intC x).length = (digs x.natAbs).length + 1 := by
  rcases Int.lt_or_le x 0 with h | h
  · rw [intC_neg x h]; simp [show (-x).toNat = x.natAbs by omega]
  · rw [intC_pos x h, code_len, show x.toNat = x.natAbs by omega]
theorem intC_bytes (x : Int) (h0 : -9223372036854775808 ≤ x) (h1 : x ≤ 9223372036854775807) : Bytes (intC x) := by
  rcases Int.lt_or_le x 0 with h | h
  · rw [intC_neg x h]
    have := digs_len8 (-x).toNat (by omega)
    exact bytes_cons (by omega) (by omega) (digs_bytes _)
  · rw [intC_pos x h]; exact code_bytes _ (by omega)
/-- the code of a text -/
def textC (b : List Int) : List Int := code b.length ++ b
theorem textC_len (b : List Int) : (textC b).length = (digs b.length).length + 1 + b.length := by rw [textC, List.length_append, code_len]

/-! ### what a reader cuts off -/
def okD (r : List Int) (k : Nat) : Prop := k ≤ 8 ∧ k ≤ r.length ∧ (k = 0 ∨ r.getD 0 0 ≠ 0)
instance (r : List Int) (k : Nat) : Decidable (okD r k) := by unfold okD; infer_instance
def cutNum : List Int → Option (Nat × List Int)
  | [] => none
  | c :: r => if okD r c.toNat then some (val (r.take c.toNat), r.drop c.toNat) else none
def cutInt : List Int → Option (Int × List Int)
  | [] => none
  | c :: r =>
    if c ≤ 8 then if okD r c.toNat ∧ val (r.take c.toNat) ≤ 9223372036854775807 then some ((val (r.take c.toNat) : Int), r.drop c.toNat) else none
    else if 16 < c ∧ okD r (c - 16).toNat ∧ val (r.take (c - 16).toNat) ≤ 9223372036854775808 then some (-(val (r.take (c - 16).toNat) : Int), r.drop (c - 16).toNat) else none
def cutText (zs : List Int) : Option (List Int × List Int) :=
  match cutNum zs with
  | none => none
  | some (n, r) => if n ≤ r.length then some (r.take n, r.drop n) else none

theorem getD_append_left (l t : List Int) (h : 0 < l.length) : (l ++ t).getD 0 0 = l.getD 0 0 := by
  rw [List.getD_eq_getElem?_getD, List.getElem?_append_left h, ← List.getD_eq_getElem?_getD]
theorem digs_head (n : Nat) : (digs n).length = 0 ∨ (digs n).getD 0 0 ≠ 0 := by
  induction n using Nat.strongRecOn with
  | ind n ih =>
    rcases Nat.eq_zero_or_pos n with rfl | h
    · left; rw [digs_zero]; rfl
    · right
      rw [digs_pos n h]
      rcases Nat.eq_zero_or_pos (digs (n / 256)).length with h0 | h0
      · have hn : n / 256 = 0 := by
          rw [← val_digs (n / 256), List.eq_nil_of_length_eq_zero h0]; rfl
        rw [List.eq_nil_of_length_eq_zero h0]
        simp
        omega
      · rw [getD_append_left _ _ h0]
        rcases ih (n / 256) (by omega) with h1 | h1
        · omega
        · exact h1
theorem okD_digs (n : Nat) (h : n < 18446744073709551616) (t : List Int) : okD (digs n ++ t) (digs n).length := by
  refine ⟨digs_len8 n h, by simp, ?_⟩
  rcases digs_head n with h0 | h0
  · exact .inl h0
  · rcases Nat.eq_zero_or_pos (digs n).length with h1 | h1
    · exact .inl h1
    · right; rw [getD_append_left _ _ h1]; exact h0
theorem cutNum_code (n : Nat) (h : n < 18446744073709551616) (t : List Int) : cutNum (code n ++ t) = some (n, t) := by
  show cutNum (((digs n).length : Int) :: (digs n ++ t)) = _
  rw [cutNum]
  simp only [Int.toNat_natCast]
  rw [if_pos (okD_digs n h t), List.take_left, List.drop_left, val_digs]
theorem cutInt_code (x : Int) (h0 : -9223372036854775808 ≤ x) (h1 : x ≤ 9223372036854775807) (t : List Int) : cutInt (intC x ++ t) = some (x, t) := by
  rcases Int.lt_or_le x 0 with h | h
  · rw [intC_neg x h]
    show cutInt ((((digs (-x).toNat).length : Int) + 16) :: (digs (-x).toNat ++ t)) = _
    have hp : 0 < (digs (-x).toNat).length := by
      rcases Nat.eq_zero_or_pos (digs (-x).toNat).length with h2 | h2
      · have := val_digs (-x).toNat
        rw [List.eq_nil_of_length_eq_zero h2, val_nil] at this
        omega
      · exact h2
    rw [cutInt]
    have e : (((digs (-x).toNat).length : Int) + 16 - 16).toNat = (digs (-x).toNat).length := by omega
    rw [if_neg (by omega), e, List.take_left, List.drop_left, val_digs, if_pos ⟨by omega, okD_digs _ (by omega) t, by omega⟩]
    rw [show -(((-x).toNat : Nat) : Int) = x by omega]
  · rw [intC_pos x h]
    show cutInt (((digs x.toNat).length : Int) :: (digs x.toNat ++ t)) = _
    have := digs_len8 x.toNat (by omega)
    rw [cutInt]
    simp only [Int.toNat_natCast]
    rw [if_pos (by omega), List.take_left, List.drop_left, val_digs, if_pos ⟨okD_digs _ (by omega) t, by omega⟩]
    rw [show ((x.toNat : Nat) : Int) = x by omega]
theorem cutText_code (b : List Int) (h : b.length < 18446744073709551616) (t : List Int) : cutText (textC b ++ t) = some (b, t) := by
  rw [cutText, textC, List.append_assoc, cutNum_code _ h]
  simp

theorem digs_cut (r : List Int) (k : Nat) (hb : Bytes r) (h : okD r k) : digs (val (r.take k)) = r.take k ∧ val (r.take k) < 18446744073709551616 := by
  obtain ⟨h8, hl, hz⟩ := h
  have hlen : (r.take k).length = k := by rw [List.length_take]; omega
  refine ⟨digs_val k _ hlen (bytes_take hb k) ?_, ?_⟩
  · rcases Nat.eq_zero_or_pos k with h0 | h0
    · exact .inl h0
    · right
      rcases hz with hz | hz
      · omega
      · rw [List.getD_eq_getElem?_getD, List.getElem?_take, if_pos h0, ← List.getD_eq_getElem?_getD]; exact hz
  · have h1 := val_lt k _ hlen (bytes_take hb k)
    have h2 : (256 : Nat) ^ k ≤ 256 ^ 8 := Nat.pow_le_pow_right (by omega) h8
    have h3 : (256 : Nat) ^ 8 = 18446744073709551616 := by decide
    omega
theorem cutInt_back (zs : List Int) (hb : Bytes zs) (x : Int) (t : List Int) (h : cutInt zs = some (x, t)) :
    zs = intC x ++ t ∧ -9223372036854775808 ≤ x ∧ x ≤ 9223372036854775807 := by
  cases zs with
  | nil => simp [cutInt] at h
  | cons c r =>
    have hc := hb c (by simp)
    have hr : Bytes r := fun d hd => hb d (by simp [hd])
    rw [cutInt] at h
    split at h
    · rename_i hc8
      split at h
      · rename_i hok
        obtain ⟨ho, hv⟩ := hok
        obtain ⟨h1, h2⟩ := digs_cut r _ hr ho
        simp only [Option.some.injEq, Prod.mk.injEq] at h
        obtain ⟨rfl, rfl⟩ := h
        refine ⟨?_, by omega, by omega⟩
        rw [intC_pos _ (by omega), Int.toNat_natCast, code, h1]
        have hl : (r.take c.toNat).length = c.toNat := by rw [List.length_take]; have := ho.2.1; omega
        rw [hl, List.cons_append, List.take_append_drop, show ((c.toNat : Nat) : Int) = c by omega]
      · cases h
    · split at h
      · rename_i hok
        obtain ⟨h16, ho, hv⟩ := hok
        obtain ⟨h1, h2⟩ := digs_cut r _ hr ho
        simp only [Option.some.injEq, Prod.mk.injEq] at h
        obtain ⟨rfl, rfl⟩ := h
        have hl : (r.take (c - 16).toNat).length = (c - 16).toNat := by rw [List.length_take]; have := ho.2.1; omega
        have hp : 0 < val (r.take (c - 16).toNat) := digs_len_pos _ (by rw [h1, hl]; omega)
        refine ⟨?_, by omega, by omega⟩
        rw [intC_neg _ (by omega), show (- -((val (r.take (c - 16).toNat) : Nat) : Int)).toNat = val (r.take (c - 16).toNat) by omega, h1, hl, List.cons_append, List.take_append_drop, show (((c - 16).toNat : Nat) : Int) + 16 = c by omega]
      · cases h

/-! ### codes are told apart -/
theorem intC_inj (a b : Int) (ha0 : -9223372036854775808 ≤ a) (ha1 : a ≤ 9223372036854775807) (hb0 : -9223372036854775808 ≤ b) (hb1 : b ≤ 9223372036854775807) (h : intC a = intC b) : a = b := by
  have h1 := cutInt_code a ha0 ha1 []
  have h2 := cutInt_code b hb0 hb1 []
  rw [h, h2] at h1
  simpa using h1.symm
theorem intC_head (x : Int) (h0 : -9223372036854775808 ≤ x) (h1 : x ≤ 9223372036854775807) : ∃ c r, intC x = c :: r ∧ r.length = (c % 16).toNat := by
  rcases Int.lt_or_le x 0 with h | h
  · have := digs_len8 (-x).toNat (by omega)
    exact ⟨_, _, intC_neg x h, by omega⟩
  · have := digs_len8 x.toNat (by omega)
    exact ⟨_, _, intC_pos x h, by omega⟩
theorem intC_apart (a b : Int) (ha0 : -9223372036854775808 ≤ a) (ha1 : a ≤ 9223372036854775807) (hb0 : -9223372036854775808 ≤ b) (hb1 : b ≤ 9223372036854775807)
    (n : Nat) (hn : n = min (intC a).length (intC b).length) : ((intC a).take n = (intC b).take n) ↔ a = b := by
  constructor
  · intro h
    apply intC_inj a b ha0 ha1 hb0 hb1
    obtain ⟨c, r, ea, la⟩ := intC_head a ha0 ha1
    obtain ⟨d, s, eb, lb⟩ := intC_head b hb0 hb1
    rw [ea, eb] at hn h ⊢
    simp only [List.length_cons] at hn
    obtain ⟨m, rfl⟩ : ∃ m, n = m + 1 := ⟨n - 1, by omega⟩
    simp only [List.take_succ_cons, List.cons.injEq] at h
    obtain ⟨rfl, h⟩ := h
    rw [List.take_of_length_le (by omega), List.take_of_length_le (by omega)] at h
    rw [h]
  · rintro rfl; rfl

/-! ### the order of codes -/
def lex : List Int → List Int → Bool
  | _, [] => false
  | [], _ :: _ => true
  | a :: x, b :: y => decide (a < b) || (decide (a = b) && lex x y)
theorem foldl_val (l : List Int) : ∀ a : Nat, l.foldl (fun a c => a * 256 + c.toNat) a = a * 256 ^ l.length + val l := by
  induction l with
  | nil => intro a; simp [val]
  | cons c r ih =>
    intro a
    simp only [List.foldl_cons, List.length_cons, val]
    rw [ih, ih (0 * 256 + c.toNat), Nat.pow_succ, Nat.add_mul, Nat.zero_mul, Nat.zero_add]
    have e : a * 256 * 256 ^ r.length = a * (256 ^ r.length * 256) := by rw [Nat.mul_assoc, Nat.mul_comm 256]
    omega
theorem val_cons (c : Int) (r : List Int) : val (c :: r) = c.toNat * 256 ^ r.length + val r := by
  show (c :: r).foldl _ 0 = _
  rw [List.foldl_cons, foldl_val]
  simp
theorem lex_val : ∀ (xs ys : List Int), xs.length = ys.length → Bytes xs → Bytes ys → lex xs ys = decide (val xs < val ys)
  | [], [], _, _, _ => rfl
  | [], _ :: _, h, _, _ => by simp at h
  | _ :: _, [], h, _, _ => by simp at h
  | a :: r, b :: s, h, hx, hy => by
    have hl : r.length = s.length := by simpa using h
    have ih := lex_val r s hl (fun c hc => hx c (by simp [hc])) (fun c hc => hy c (by simp [hc]))
    have h1 := val_lt r.length r rfl (fun c hc => hx c (by simp [hc]))
    have h2 := val_lt s.length s rfl (fun c hc => hy c (by simp [hc]))
    have ha := hx a (by simp)
    have hb := hy b (by simp)
    rw [lex, ih, val_cons, val_cons, ← hl]
    rw [← hl] at h2
    generalize 256 ^ r.length = p at h1 h2 ⊢
    generalize val r = u at h1 ⊢
    generalize val s = v at h2 ⊢
    obtain ⟨a', rfl⟩ : ∃ a' : Nat, a = (a' : Int) := ⟨a.toNat, by omega⟩
    obtain ⟨b', rfl⟩ : ∃ b' : Nat, b = (b' : Int) := ⟨b.toNat, by omega⟩
    simp only [Int.toNat_natCast]
    rcases Nat.lt_trichotomy a' b' with hlt | heq | hgt
    · have e1 : decide ((a' : Int) < (b' : Int)) = true := by simp; omega
      have e2 : (a' + 1) * p ≤ b' * p := Nat.mul_le_mul_right _ hlt
      rw [Nat.add_mul] at e2
      have e3 : a' * p + u < b' * p + v := by omega
      rw [e1, decide_eq_true e3]; rfl
    · subst heq
      simp
    · have e1 : decide ((a' : Int) < (b' : Int)) = false := by simp; omega
      have e0 : decide ((a' : Int) = (b' : Int)) = false := by simp; omega
      have e2 : (b' + 1) * p ≤ a' * p := Nat.mul_le_mul_right _ hgt
      rw [Nat.add_mul] at e2
      have e3 : ¬ a' * p + u < b' * p + v := by omega
      rw [e1, e0, decide_eq_false e3]; rfl
theorem digs_low : ∀ (k n : Nat), (digs n).length = k + 1 → 256 ^ k ≤ n
  | 0, n, h => by have := digs_len_pos n (by omega); rw [Nat.pow_zero]; omega
  | k + 1, n, h => by
    have hp := digs_len_pos n (by omega)
    have := digs_low k (n / 256) (by have := digs_len n hp; omega)
    rw [Nat.pow_succ]
    omega
theorem len_lt (a b : Nat) (h : (digs a).length < (digs b).length) : a < b := by
  obtain ⟨k, hk⟩ : ∃ k, (digs b).length = k + 1 := ⟨(digs b).length - 1, by omega⟩
  have h1 := digs_low k b hk
  have h2 := val_lt (digs a).length (digs a) rfl (digs_bytes a)
  rw [val_digs] at h2
  have h3 : (256 : Nat) ^ (digs a).length ≤ 256 ^ k := Nat.pow_le_pow_right (by omega) (by omega)
  omega
theorem lex_code (a b : Nat) : lex (code a) (code b) = decide (a < b) := by
  show (decide (((digs a).length : Int) < ((digs b).length : Int)) || (decide (((digs a).length : Int) = ((digs b).length : Int)) && lex (digs a) (digs b))) = _
  rcases Nat.lt_trichotomy (digs a).length (digs b).length with h | h | h
  · have h1 := len_lt a b h
    rw [decide_eq_true (show ((digs a).length : Int) < ((digs b).length : Int) by omega), decide_eq_true h1]; rfl
  · rw [lex_val _ _ h (digs_bytes a) (digs_bytes b), val_digs, val_digs, decide_eq_true (show ((digs a).length : Int) = ((digs b).length : Int) by omega), decide_eq_false (show ¬ ((digs a).length : Int) < ((digs b).length : Int) by omega)]; rfl
  · have h1 := len_lt b a h
    rw [decide_eq_false (show ¬ ((digs a).length : Int) < ((digs b).length : Int) by omega), decide_eq_false (show ¬ ((digs a).length : Int) = ((digs b).length : Int) by omega), decide_eq_false (show ¬ a < b by omega)]; rfl
end Go.Proofs.YtgmpdifggaggdaaGreatDoor.Fld
