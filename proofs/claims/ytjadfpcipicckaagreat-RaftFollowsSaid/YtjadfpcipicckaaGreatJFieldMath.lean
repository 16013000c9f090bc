/-
  Several texts in one: The plain mathematics of layer 2: the digits of a number in base 256, the codes of numbers, whole numbers and texts, what a reader cuts off, and that each undoes the other. No condition but those that each theorem states. The plain mathematics of layer 8: entries, what a log is, and what each step makes of it. No condition but those that each theorem states.
-/
import Derived.Lib.BitFns
namespace Go.Proofs.YtjadfpcipicckaaGreat.Fld

def Bytes (zs : List Int) : Prop := ∀ c ∈ zs, 0 ≤ c ∧ c ≤ 255
theorem bytes_nil : Bytes [] := fun c hc => by simp at hc
theorem bytes_append {xs ys : List Int} (hx : Bytes xs) (hy : Bytes ys) : Bytes (xs ++ ys) := by
  intro c hc
  rw [List.mem_append] at hc
  rcases hc with h | h
  · exact hx c h
  · exact hy c h
theorem bytes_cons {c : Int} {ys : List Int} (h0 : 0 ≤ c) (h1 : c ≤ 255) (hy : Bytes ys) : Bytes (c :: ys) := by
  intro d hd
  rcases List.mem_cons.1 hd with rfl | h
  · exact ⟨h0, h1⟩
  · exact hy d h
theorem bytes_drop {xs : List Int} (h : Bytes xs) (k : Nat) : Bytes (xs.drop k) := fun c hc => h c (List.mem_of_mem_drop hc)
theorem bytes_take {xs : List Int} (h : Bytes xs) (k : Nat) : Bytes (xs.take k) := fun c hc => h c (List.mem_of_mem_take hc)
theorem bytes_zeros (k : Nat) : Bytes (List.replicate k 0) := fun c hc => by
  have := List.eq_of_mem_replicate hc
  omega

/-- the digits of n in base 256, the greatest first -/
def digs (n : Nat) : List Int := if n = 0 then [] else digs (n / 256) ++ [((n % 256 : Nat) : Int)]
termination_by n
decreasing_by omega
theorem digs_zero : digs 0 = [] := by rw [digs]; simp
theorem digs_pos (n : Nat) (h : 0 < n) : digs n = digs (n / 256) ++ [((n % 256 : Nat) : Int)] := by
  conv => lhs; rw [digs]
  rw [if_neg (by omega)]
theorem digs_bytes (n : Nat) : Bytes (digs n) := by
  induction n using Nat.strongRecOn with
  | ind n ih =>
    rcases Nat.eq_zero_or_pos n with rfl | h
    · rw [digs_zero]; exact bytes_nil
    · rw [digs_pos n h]
      exact bytes_append (ih _ (by omega)) (bytes_cons (by omega) (by omega) bytes_nil)
theorem digs_len (n : Nat) (h : 0 < n) : (digs n).length = (digs (n / 256)).length + 1 := by rw [digs_pos n h]; simp
theorem digs_len_le : ∀ (k n : Nat), n < 256 ^ k → (digs n).length ≤ k
  | 0, n, h => by
    have : n = 0 := by simpa using h
    rw [this, digs_zero]; simp
  | k + 1, n, h => by
    rcases Nat.eq_zero_or_pos n with rfl | hp
    · rw [digs_zero]; simp
    · have := digs_len_le k (n / 256) (by rw [Nat.pow_succ] at h; omega)
      rw [digs_len n hp]; omega
theorem digs_len8 (n : Nat) (h : n < 18446744073709551616) : (digs n).length ≤ 8 := digs_len_le 8 n (by simpa using h)
theorem digs_len_pos (n : Nat) (h : 0 < (digs n).length) : 0 < n := by
  rcases Nat.eq_zero_or_pos n with rfl | hp
  · rw [digs_zero] at h; simp at h
  · exact hp

/-- the number whose digits are l -/
def val (l : List Int) : Nat := l.foldl (fun a c => a * 256 + c.toNat) 0
theorem val_nil : val [] = 0 := rfl
theorem val_snoc (l : List Int) (c : Int) : val (l ++ [c]) = val l * 256 + c.toNat := by simp [val]
theorem val_digs (n : Nat) : val (digs n) = n := by
  induction n using Nat.strongRecOn with
  | ind n ih =>
    rcases Nat.eq_zero_or_pos n with rfl | h
    · rw [digs_zero]; rfl
    · rw [digs_pos n h, val_snoc, ih _ (by omega)]
      omega
theorem val_lt : ∀ (k : Nat) (l : List Int), l.length = k → Bytes l → val l < 256 ^ k
  | 0, l, h, _ => by
    have : l = [] := List.eq_nil_of_length_eq_zero h
    rw [this]; simp [val]
  | k + 1, l, h, hb => by
    obtain ⟨l', c, rfl⟩ : ∃ l' c, l = l' ++ [c] := ⟨l.dropLast, l.getLast (by intro e; rw [e] at h; simp at h), (List.dropLast_concat_getLast _).symm⟩
    have h1 := val_lt k l' (by simpa using h) (fun d hd => hb d (by simp [hd]))
    have h2 := hb c (by simp)
    rw [val_snoc, Nat.pow_succ]
    omega
theorem digs_val : ∀ (k : Nat) (l : List Int), l.length = k → Bytes l → (k = 0 ∨ l.getD 0 0 ≠ 0) → digs (val l) = l
  | 0, l, h, _, _ => by
    have : l = [] := List.eq_nil_of_length_eq_zero h
    rw [this, val_nil, digs_zero]
  | k + 1, l, h, hb, hz => by
    obtain ⟨l', c, rfl⟩ : ∃ l' c, l = l' ++ [c] := ⟨l.dropLast, l.getLast (by intro e; rw [e] at h; simp at h), (List.dropLast_concat_getLast _).symm⟩
    have hl : l'.length = k := by simpa using h
    have hb' : Bytes l' := fun d hd => hb d (by simp [hd])
    have hc := hb c (by simp)
    have hz' : l'.getD 0 0 ≠ 0 ∨ k = 0 := by
      rcases Nat.eq_zero_or_pos k with h0 | h0
      · exact .inr h0
      · left
        rcases hz with hz | hz
        · omega
        · rw [List.getD_eq_getElem?_getD, List.getElem?_append_left (by omega), ← List.getD_eq_getElem?_getD] at hz
          exact hz
    have ih := digs_val k l' hl hb' hz'.symm
    have hpos : 0 < val (l' ++ [c]) := by
      rw [val_snoc]
      rcases Nat.eq_zero_or_pos k with h0 | h0
      · have : l' = [] := List.eq_nil_of_length_eq_zero (by omega)
        subst this
        rcases hz with hz | hz
        · omega
        · simp at hz
          omega
      · have : 0 < val l' := digs_len_pos _ (by rw [ih]; omega)
        omega
    rw [digs_pos _ hpos, val_snoc]
    have e1 : (val l' * 256 + c.toNat) / 256 = val l' := by omega
    have e2 : (((val l' * 256 + c.toNat) % 256 : Nat) : Int) = c := by omega
    rw [e1, e2, ih]

theorem size_eq (n : Nat) (h : n < 18446744073709551616) : (Lib.bitLen n + 7) / 8 = (digs n).length ∧ Lib.bitLen n ≤ 64 := by
  induction n using Nat.strongRecOn with
  | ind n ih =>
    rcases Nat.lt_or_ge n 256 with h1 | h1
    · have h2 := Lib.bitLen_le8 ⟨n, h1⟩
      simp only at h2
      rcases Nat.eq_zero_or_pos n with rfl | hp
      · rw [digs_zero]; decide
      · rw [digs_len n hp, show n / 256 = 0 by omega, digs_zero]
        have h3 := Lib.bitLen_half n (by omega) (by omega)
        simp only [List.length_nil]
        omega
    · have h2 := Lib.bitLen_shift 8 n (by omega) (by omega)
      rw [show (2 : Nat) ^ 8 = 256 from rfl] at h2
      have h3 := ih (n / 256) (by omega) (by omega)
      rw [digs_len n (by omega)]
      refine ⟨by omega, ?_⟩
      have h4 := digs_len_le 7 (n / 256) (by omega)
      omega

/-- the code of a number -/
def code (n : Nat) : List Int := ((digs n).length : Int) :: digs n
theorem code_len (n : Nat) : (code n).length = (digs n).length + 1 := by simp [code]
theorem code_bytes (n : Nat) (h : n < 18446744073709551616) : Bytes (code n) := by
  have := digs_len8 n h
  exact bytes_cons (by omega) (by omega) (digs_bytes n)
theorem code_inj (a b : Nat) (h : code a = code b) : a = b := by
  injection h with _ h
  rw [← val_digs a, h, val_digs]
/-- the code of a whole number -/
def intC (x : Int) : List Int := if 0 ≤ x then code x.toNat else (((digs (-x).toNat).length : Int) + 16) :: digs (-x).toNat
theorem intC_pos (x : Int) (h : 0 ≤ x) : intC x = code x.toNat := by rw [intC, if_pos h]
theorem intC_neg (x : Int) (h : x < 0) : intC x = (((digs (-x).toNat).length : Int) + 16) :: digs (-x).toNat := by rw [intC, if_neg (by omega)]
theorem intC_set (x : Int) (h : x < 0) : intC x = (code (-x).toNat).set 0 (((digs (-x).toNat).length : Int) + 16) := by rw [intC_neg x h]; rfl
theorem intC_len (x : Int) : (intC x).length = (digs x.natAbs).length + 1 := by
  rcases Int.lt_or_le x 0 with h | h
  · rw [intC_neg x h]; simp [show (-x).toNat = x.natAbs by omega]
  · rw [intC_pos x h, code_len, show x.toNat = x.natAbs by omega]
theorem intC_bytes (x : Int) (h0 : -9223372036854775808 ≤ x) (h1 : x ≤ 9223372036854775807) : Bytes (intC x) := by
  rcases Int.lt_or_le x 0 with h | h
  · rw [intC_neg x h]
    have := digs_len8 (-x).toNat (by omega)
    exact bytes_cons (by omega) (by omega) (digs_bytes _)
  · rw [intC_pos x h]; exact code_bytes _ (by omega)
/-- the code of a text -/
def textC (b : List Int) : List Int := code b.length ++ b
theorem textC_len (b : List Int) : (textC b).length = (digs b.length).length + 1 + b.length := by rw [textC, List.length_append, code_len]

/-! ### what a reader cuts off -/
def okD (r : List Int) (k : Nat) : Prop := k ≤ 8 ∧ k ≤ r.length ∧ (k = 0 ∨ r.getD 0 0 ≠ 0)
instance (r : List Int) (k : Nat) : Decidable (okD r k) := by unfold okD; infer_instance
def cutNum : List Int → Option (Nat × List Int)
  | [] => none
  | c :: r => if okD r c.toNat then some (val (r.take c.toNat), r.drop c.toNat) else none
def cutInt : List Int → Option (Int × List Int)
  | [] => none
  | c :: r =>
    if c ≤ 8 then if okD r c.toNat ∧ val (r.take c.toNat) ≤ 9223372036854775807 then some ((val (r.take c.toNat) : Int), r.drop c.toNat) else none
    else if 16 < c ∧ okD r (c - 16).toNat ∧ val (r.take (c - 16).toNat) ≤ 9223372036854775808 then some (-(val (r.take (c - 16).toNat) : Int), r.drop (c - 16).toNat) else none
def cutText (zs : List Int) : Option (List Int × List Int) :=
  match cutNum zs with
  | none => none
  | some (n, r) => if n ≤ r.length then some (r.take n, r.drop n) else none

theorem getD_append_left (l t : List Int) (h : 0 < l.length) : (l ++ t).getD 0 0 = l.getD 0 0 := by
  rw [List.getD_eq_getElem?_getD, List.getElem?_append_left h, ← List.getD_eq_getElem?_getD]
theorem digs_head (n : Nat) : (digs n).length = 0 ∨ (digs n).getD 0 0 ≠ 0 := by
  induction n using Nat.strongRecOn with
  | ind n ih =>
    rcases Nat.eq_zero_or_pos n with rfl | h
    · left; rw [digs_zero]; rfl
    · right
      rw [digs_pos n h]
      rcases Nat.eq_zero_or_pos (digs (n / 256)).length with h0 | h0
      · have hn : n / 256 = 0 := by
          rw [← val_digs (n / 256), List.eq_nil_of_length_eq_zero h0]; rfl
        rw [List.eq_nil_of_length_eq_zero h0]
        simp
        omega
      · rw [getD_append_left _ _ h0]
        rcases ih (n / 256) (by omega) with h1 | h1
        · omega
        · exact h1
theorem okD_digs (n : Nat) (h : n < 18446744073709551616) (t : List Int) : okD (digs n ++ t) (digs n).length := by
  refine ⟨digs_len8 n h, by simp, ?_⟩
  rcases digs_head n with h0 | h0
  · exact .inl h0
  · rcases Nat.eq_zero_or_pos (digs n).length with h1 | h1
    · exact .inl h1
    · right; rw [getD_append_left _ _ h1]; exact h0
theorem cutNum_code (n : Nat) (h : n < 18446744073709551616) (t : List Int) : cutNum (code n ++ t) = some (n, t) := by
  show cutNum (((digs n).length : Int) :: (digs n ++ t)) = _
  rw [cutNum]
  simp only [Int.toNat_natCast]
  rw [if_pos (okD_digs n h t), List.take_left, List.drop_left, val_digs]
theorem cutInt_code (x : Int) (h0 : -9223372036854775808 ≤ x) (h1 : x ≤ 9223372036854775807) (t : List Int) : cutInt (intC x ++ t) = some (x, t) := by
  rcases Int.lt_or_le x 0 with h | h
  · rw [intC_neg x h]
    show cutInt ((((digs (-x).toNat).length : Int) + 16) :: (digs (-x).toNat ++ t)) = _
    have hp : 0 < (digs (-x).toNat).length := by
      rcases Nat.eq_zero_or_pos (digs (-x).toNat).length with h2 | h2
      · have := val_digs (-x).toNat
        rw [List.eq_nil_of_length_eq_zero h2, val_nil] at this
        omega
      · exact h2
    rw [cutInt]
    have e : (((digs (-x).toNat).length : Int) + 16 - 16).toNat = (digs (-x).toNat).length := by omega
    rw [if_neg (by omega), e, List.take_left, List.drop_left, val_digs, if_pos ⟨by omega, okD_digs _ (by omega) t, by omega⟩]
    rw [show -(((-x).toNat : Nat) : Int) = x by omega]
  · rw [intC_pos x h]
    show cutInt (((digs x.toNat).length : Int) :: (digs x.toNat ++ t)) = _
    have := digs_len8 x.toNat (by omega)
    rw [cutInt]
    simp only [Int.toNat_natCast]
    rw [if_pos (by omega), List.take_left, List.drop_left, val_digs, if_pos ⟨okD_digs _ (by omega) t, by omega⟩]
    rw [show ((x.toNat : Nat) : Int) = x by omega]
theorem cutText_code (b : List Int) (h : b.length < 18446744073709551616) (t : List Int) : cutText (textC b ++ t) = some (b, t) := by
  rw [cutText, textC, List.append_assoc, cutNum_code _ h]
  simp

theorem digs_cut (r : List Int) (k : Nat) (hb : Bytes r) (h : okD r k) : digs (val (r.take k)) = r.take k ∧ val (r.take k) < 18446744073709551616 := by
  obtain ⟨h8, hl, hz⟩ := h
  have hlen : (r.take k).length = k := by rw [List.length_take]; omega
  refine ⟨digs_val k _ hlen (bytes_take hb k) ?_, ?_⟩
  · rcases Nat.eq_zero_or_pos k with h0 | h0
    · exact .inl h0
    · right
      rcases hz with hz | hz
      · omega
      · rw [List.getD_eq_getElem?_getD, List.getElem?_take, if_pos h0, ← List.getD_eq_getElem?_getD]; exact hz
  · have h1 := val_lt k _ hlen (bytes_take hb k)
    have h2 : (256 : Nat) ^ k ≤ 256 ^ 8 := Nat.pow_le_pow_right (by omega) h8
    have h3 : (256 : Nat) ^ 8 = 18446744073709551616 := by decide
    omega
theorem cutInt_back (zs : List Int) (hb : Bytes zs) (x : Int) (t : List Int) (h : cutInt zs = some (x, t)) :
    zs = intC x ++ t ∧ -9223372036854775808 ≤ x ∧ x ≤ 9223372036854775807 := by
  cases zs with
  | nil => simp [cutInt] at h
  | cons c r =>
    have hc := hb c (by simp)
    have hr : Bytes r := fun d hd => hb d (by simp [hd])
    rw [cutInt] at h
    split at h
    · rename_i hc8
      split at h
      · rename_i hok
        obtain ⟨ho, hv⟩ := hok
        obtain ⟨h1, h2⟩ := digs_cut r _ hr ho
        simp only [Option.some.injEq, Prod.mk.injEq] at h
        obtain ⟨rfl, rfl⟩ := h
        refine ⟨?_, by omega, by omega⟩
        rw [intC_pos _ (by omega), Int.toNat_natCast, code, h1]
        have hl : (r.take c.toNat).length = c.toNat := by rw [List.length_take]; have := ho.2.1; omega
        rw [hl, List.cons_append, List.take_append_drop, show ((c.toNat : Nat) : Int) = c by omega]
      · cases h
    · split at h
      · rename_i hok
        obtain ⟨h16, ho, hv⟩ := hok
        obtain ⟨h1, h2⟩ := digs_cut r _ hr ho
        simp only [Option.some.injEq, Prod.mk.injEq] at h
        obtain ⟨rfl, rfl⟩ := h
        have hl : (r.take (c - 16).toNat).length = (c - 16).toNat := by rw [List.length_take]; have := ho.2.1; omega
        have hp : 0 < val (r.take (c - 16).toNat) := digs_len_pos _ (by rw [h1, hl]; omega)
        refine ⟨?_, by omega, by omega⟩
        rw [intC_neg _ (by omega), show (- -((val (r.take (c - 16).toNat) : Nat) : Int)).toNat = val (r.take (c - 16).toNat) by omega, h1, hl, List.cons_append, List.take_append_drop, show (((c - 16).toNat : Nat) : Int) + 16 = c by omega]
      · cases h

/-! ### codes are told apart -/
theorem intC_inj (a b : Int) (ha0 : -9223372036854775808 ≤ a) (ha1 : a ≤ 9223372036854775807) (hb0 : -9223372036854775808 ≤ b) (hb1 : b ≤ 9223372036854775807) (h : intC a = intC b) : a = b := by
  have h1 := cutInt_code a ha0 ha1 []
  have h2 := cutInt_code b hb0 hb1 []
  rw [h, h2] at h1
  simpa using h1.symm
theorem intC_head (x : Int) (h0 : -9223372036854775808 ≤ x) (h1 : x ≤ 9223372036854775807) : ∃ c r, intC x = c :: r ∧ r.length = (c % 16).toNat := by
  rcases Int.lt_or_le x 0 with h | h
  · have := digs_len8 (-x).toNat (by omega)
    exact ⟨_, _, intC_neg x h, by omega⟩
  · have := digs_len8 x.toNat (by omega)
    exact ⟨_, _, intC_pos x h, by omega⟩
theorem intC_apart (a b : Int) (ha0 : -9223372036854775808 ≤ a) (ha1 : a ≤ 9223372036854775807) (hb0 : -9223372036854775808 ≤ b) (hb1 : b ≤ 9223372036854775807)
    (n : Nat) (hn : n = min (intC a).length (intC b).length) : ((intC a).take n = (intC b).take n) ↔ a = b := by
  constructor
  · intro h
    apply intC_inj a b ha0 ha1 hb0 hb1
    obtain ⟨c, r, ea, la⟩ := intC_head a ha0 ha1
    obtain ⟨d, s, eb, lb⟩ := intC_head b hb0 hb1
    rw [ea, eb] at hn h ⊢
    simp only [List.length_cons] at hn
    obtain ⟨m, rfl⟩ : ∃ m, n = m + 1 := ⟨n - 1, by omega⟩
    simp only [List.take_succ_cons, List.cons.injEq] at h
    obtain ⟨rfl, h⟩ := h
    rw [List.take_of_length_le (by omega), List.take_of_length_le (by omega)] at h
    rw [h]
  · rintro rfl; rfl

/-! ### the order of codes -/
def lex : List Int → List Int → Bool
  | _, [] => false
  | [], _ :: _ => true
  | a :: x, b :: y => decide (a < b) || (decide (a = b) && lex x y)
theorem foldl_val (l : List Int) : ∀ a : Nat, l.foldl (fun a c => a * 256 + c.toNat) a = a * 256 ^ l.length + val l := by
  induction l with
  | nil => intro a; simp [val]
  | cons c r ih =>
    intro a
    simp only [List.foldl_cons, List.length_cons, val]
    rw [ih, ih (0 * 256 + c.toNat), Nat.pow_succ, Nat.add_mul, Nat.zero_mul, Nat.zero_add]
    have e : a * 256 * 256 ^ r.length = a * (256 ^ r.length * 256) := by rw [Nat.mul_assoc, Nat.mul_comm 256]
    omega
theorem val_cons (c : Int) (r : List Int) : val (c :: r) = c.toNat * 256 ^ r.length + val r := by
  show (c :: r).foldl _ 0 = _
  rw [List.foldl_cons, foldl_val]
  simp
theorem lex_val : ∀ (xs ys : List Int), xs.length = ys.length → Bytes xs → Bytes ys → lex xs ys = decide (val xs < val ys)
  | [], [], _, _, _ => rfl
  | [], _ :: _, h, _, _ => by simp at h
  | _ :: _, [], h, _, _ => by simp at h
  | a :: r, b :: s, h, hx, hy => by
    have hl : r.length = s.length := by simpa using h
    have ih := lex_val r s hl (fun c hc => hx c (by simp [hc])) (fun c hc => hy c (by simp [hc]))
    have h1 := val_lt r.length r rfl (fun c hc => hx c (by simp [hc]))
    have h2 := val_lt s.length s rfl (fun c hc => hy c (by simp [hc]))
    have ha := hx a (by simp)
    have hb := hy b (by simp)
    rw [lex, ih, val_cons, val_cons, ← hl]
    rw [← hl] at h2
    generalize 256 ^ r.length = p at h1 h2 ⊢
    generalize val r = u at h1 ⊢
    generalize val s = v at h2 ⊢
    obtain ⟨a', rfl⟩ : ∃ a' : Nat, a = (a' : Int) := ⟨a.toNat, by omega⟩
    obtain ⟨b', rfl⟩ : ∃ b' : Nat, b = (b' : Int) := ⟨b.toNat, by omega⟩
    simp only [Int.toNat_natCast]
    rcases Nat.lt_trichotomy a' b' with hlt | heq | hgt
    · have e1 : decide ((a' : Int) < (b' : Int)) = true := by simp; omega
      have e2 : (a' + 1) * p ≤ b' * p := Nat.mul_le_mul_right _ hlt
      rw [Nat.add_mul] at e2
      have e3 : a' * p + u < b' * p + v := by omega
      rw [e1, decide_eq_true e3]; rfl
    · subst heq
      simp
    · have e1 : decide ((a' : Int) < (b' : Int)) = false := by simp; omega
      have e0 : decide ((a' : Int) = (b' : Int)) = false := by simp; omega
      have e2 : (b' + 1) * p ≤ a' * p := Nat.mul_le_mul_right _ hgt
      rw [Nat.add_mul] at e2
      have e3 : ¬ a' * p + u < b' * p + v := by omega
      rw [e1, e0, decide_eq_false e3]; rfl
theorem digs_low : ∀ (k n : Nat), (digs n).length = k + 1 → 256 ^ k ≤ n
  | 0, n, h => by have := digs_len_pos n (by omega); rw [Nat.pow_zero]; omega
  | k + 1, n, h => by
    have hp := digs_len_pos n (by omega)
    have := digs_low k (n / 256) (by have := digs_len n hp; omega)
    rw [Nat.pow_succ]
    omega
theorem len_lt (a b : Nat) (h : (digs a).length < (digs b).length) : a < b := by
  obtain ⟨k, hk⟩ : ∃ k, (digs b).length = k + 1 := ⟨(digs b).length - 1, by omega⟩
  have h1 := digs_low k b hk
  have h2 := val_lt (digs a).length (digs a) rfl (digs_bytes a)
  rw [val_digs] at h2
  have h3 : (256 : Nat) ^ (digs a).length ≤ 256 ^ k := Nat.pow_le_pow_right (by omega) (by omega)
  omega
theorem lex_code (a b : Nat) : lex (code a) (code b) = decide (a < b) := by
  show (decide (((digs a).length : Int) < ((digs b).length : Int)) || (decide (((digs a).length : Int) = ((digs b).length : Int)) && lex (digs a) (digs b))) = _
  rcases Nat.lt_trichotomy (digs a).length (digs b).length with h | h | h
  · have h1 := len_lt a b h
    rw [decide_eq_true (show ((digs a).length : Int) < ((digs b).length : Int) by omega), decide_eq_true h1]; rfl
  · rw [lex_val _ _ h (digs_bytes a) (digs_bytes b), val_digs, val_digs, decide_eq_true (show ((digs a).length : Int) = ((digs b).length : Int) by omega), decide_eq_false (show ¬ ((digs a).length : Int) < ((digs b).length : Int) by omega)]; rfl
  · have h1 := len_lt b a h
    rw [decide_eq_false (show ¬ ((digs a).length : Int) < ((digs b).length : Int) by omega), decide_eq_false (show ¬ ((digs a).length : Int) = ((digs b).length : Int) by omega), decide_eq_false (show ¬ a < b by omega)]; rfl
end Go.Proofs.YtjadfpcipicckaaGreat.Fld

namespace Go.Proofs.YtjadfpcipicckaaGreat.Rg
open Go.Proofs.YtjadfpcipicckaaGreat.Fld
set_option linter.unusedVariables false

structure En where
  idx : Int
  term : Int
  kind : Int
  data : List Int
def en0 : En := ⟨0, 0, 0, []⟩
def okE (e : En) : Bool := decide (1 ≤ e.idx) && decide (e.idx ≤ 1099511627776) && decide (0 ≤ e.term) && decide (e.term ≤ 1099511627776) && decide (0 ≤ e.kind) && decide (e.kind ≤ 7) && decide (e.data.length ≤ 4096)
theorem okE_iff (e : En) : okE e = true ↔ 1 ≤ e.idx ∧ e.idx ≤ 1099511627776 ∧ 0 ≤ e.term ∧ e.term ≤ 1099511627776 ∧ 0 ≤ e.kind ∧ e.kind ≤ 7 ∧ e.data.length ≤ 4096 := by
  unfold okE; simp [and_assoc]
def okL (l : List En) : Bool := l.all okE
def fol : List En → Int → Int → Bool
  | [], _, _ => true
  | e :: r, i, t => decide (e.idx = i + 1) && decide (t ≤ e.term) && fol r e.idx e.term
def lastT (t : Int) : List En → Int
  | [] => t
  | e :: r => lastT e.term r
theorem okL_append (a b : List En) : okL (a ++ b) = (okL a && okL b) := by simp [okL]
theorem okL_mem {l : List En} (h : okL l = true) {e : En} (he : e ∈ l) : okE e = true := by
  unfold okL at h; rw [List.all_eq_true] at h; exact h e he
theorem okL_take {l : List En} (h : okL l = true) (k : Nat) : okL (l.take k) = true := by
  unfold okL at *; rw [List.all_eq_true] at *; exact fun e he => h e (List.mem_of_mem_take he)
theorem okL_drop {l : List En} (h : okL l = true) (k : Nat) : okL (l.drop k) = true := by
  unfold okL at *; rw [List.all_eq_true] at *; exact fun e he => h e (List.mem_of_mem_drop he)
theorem fol_cons (e : En) (r : List En) (i t : Int) : fol (e :: r) i t = true ↔ e.idx = i + 1 ∧ t ≤ e.term ∧ fol r (i + 1) e.term = true := by
  constructor
  · intro h
    simp only [fol, Bool.and_eq_true, decide_eq_true_eq] at h
    obtain ⟨⟨h1, h2⟩, h3⟩ := h
    exact ⟨h1, h2, by rw [← h1]; exact h3⟩
  · rintro ⟨h1, h2, h3⟩
    simp only [fol, Bool.and_eq_true, decide_eq_true_eq]
    exact ⟨⟨h1, h2⟩, by rw [h1]; exact h3⟩
theorem fol_append : ∀ (a b : List En) (i t : Int), fol (a ++ b) i t = true ↔ fol a i t = true ∧ fol b (i + a.length) (lastT t a) = true
  | [], b, i, t => by simp [fol, lastT]
  | e :: r, b, i, t => by
    rw [List.cons_append, fol_cons, fol_cons, fol_append r b (i + 1) e.term, show i + 1 + (r.length : Int) = i + ((e :: r).length : Nat) by simp; omega]
    simp only [lastT]
    constructor
    · rintro ⟨h1, h2, h3, h4⟩; exact ⟨⟨h1, h2, h3⟩, h4⟩
    · rintro ⟨⟨h1, h2, h3⟩, h4⟩; exact ⟨h1, h2, h3, h4⟩
theorem fol_at : ∀ {l : List En} {i t : Int}, fol l i t = true → ∀ k, k < l.length → (l.getD k en0).idx = i + 1 + k ∧ t ≤ (l.getD k en0).term
  | [], _, _, _, k, hk => by simp at hk
  | e :: r, i, t, h, k, hk => by
    rw [fol_cons] at h
    obtain ⟨h1, h2, h3⟩ := h
    cases k with
    | zero => simp only [List.getD_cons_zero]; exact ⟨by omega, h2⟩
    | succ k =>
      simp only [List.getD_cons_succ]
      obtain ⟨g1, g2⟩ := fol_at h3 k (by simpa using hk)
      exact ⟨by omega, by omega⟩
theorem fol_mono : ∀ {l : List En} {i t : Int}, fol l i t = true → ∀ j k, j ≤ k → k < l.length → (l.getD j en0).term ≤ (l.getD k en0).term
  | [], _, _, _, j, k, _, hk => by simp at hk
  | e :: r, i, t, h, j, k, hjk, hk => by
    rw [fol_cons] at h
    obtain ⟨h1, h2, h3⟩ := h
    cases k with
    | zero =>
      obtain rfl : j = 0 := by omega
      exact Int.le_refl _
    | succ k =>
      cases j with
      | zero =>
        simp only [List.getD_cons_zero, List.getD_cons_succ]
        exact (fol_at h3 k (by simpa using hk)).2
      | succ j =>
        simp only [List.getD_cons_succ]
        exact fol_mono h3 j k (by omega) (by simpa using hk)
theorem lastT_eq : ∀ (l : List En) (t : Int), lastT t l = if l.length = 0 then t else (l.getD (l.length - 1) en0).term
  | [], t => rfl
  | [e], t => rfl
  | e :: x :: r, t => by
    have := lastT_eq (x :: r) e.term
    simp only [lastT] at this ⊢
    rw [this]
    simp
theorem fol_take {l : List En} {i t : Int} (h : fol l i t = true) (k : Nat) : fol (l.take k) i t = true := by
  rw [← List.take_append_drop k l, fol_append] at h
  exact h.1
theorem fol_drop {l : List En} {i t : Int} (h : fol l i t = true) (k : Nat) (hk : k ≤ l.length) : fol (l.drop k) (i + k) (lastT t (l.take k)) = true := by
  rw [← List.take_append_drop k l, fol_append] at h
  have := h.2
  rw [List.length_take, Nat.min_eq_left hk] at this
  exact this
theorem lastT_take {l : List En} {t : Int} (k : Nat) (h0 : 0 < k) (hk : k ≤ l.length) : lastT t (l.take k) = (l.getD (k - 1) en0).term := by
  rw [lastT_eq, List.length_take, Nat.min_eq_left hk, if_neg (by omega), List.getD_eq_getElem?_getD, List.getElem?_take, if_pos (by omega), ← List.getD_eq_getElem?_getD]
theorem fol_low {l : List En} {i t t' : Int} (h : fol l i t = true) (ht : t' ≤ t) : fol l i t' = true := by
  cases l with
  | nil => rfl
  | cons e r => rw [fol_cons] at *; exact ⟨h.1, by omega, h.2.2⟩

/-! ### a log -/
structure St where
  base : Int
  bt : Int
  es : List En
  com : Int
  app : Int
def St.last (s : St) : Int := s.base + s.es.length
def St.lt (s : St) : Int := lastT s.bt s.es
structure St.Ok (s : St) : Prop where
  b0 : 0 ≤ s.base
  bl : s.last ≤ 1099511627776
  t0 : 0 ≤ s.bt
  t1 : s.bt ≤ 1099511627776
  ba : s.base ≤ s.app
  ac : s.app ≤ s.com
  cl : s.com ≤ s.last
  ok : okL s.es = true
  fo : fol s.es s.base s.bt = true
def okN (n : Int) : Bool := decide (0 ≤ n) && decide (n ≤ 1099511627776)
def st0 (b t : Int) : St := ⟨b, t, [], b, b⟩
theorem st0_ok {b t : Int} (hb : okN b = true) (ht : okN t = true) : (st0 b t).Ok := by
  simp [okN] at hb ht
  refine ⟨hb.1, ?_, ht.1, ht.2, Int.le_refl _, Int.le_refl _, ?_, rfl, rfl⟩
  · simp [St.last, st0]; omega
  · simp [St.last, st0]
def termB (s : St) (i : Int) : Bool := decide (s.base ≤ i) && decide (i ≤ s.last)
def entT (s : St) (k : Nat) : Int := if k = 0 then s.bt else (s.es.getD (k - 1) en0).term
def termV (s : St) (i : Int) : Int := if termB s i = true then entT s (i - s.base).toNat else 0
def hasB (s : St) (i t : Int) : Bool := termB s i && (termV s i == t)
theorem termB_iff (s : St) (i : Int) : termB s i = true ↔ s.base ≤ i ∧ i ≤ s.last := by simp [termB]
theorem hasB_iff (s : St) (i t : Int) : hasB s i t = true ↔ s.base ≤ i ∧ i ≤ s.last ∧ entT s (i - s.base).toNat = t := by
  unfold hasB
  rw [Bool.and_eq_true, beq_iff_eq]
  constructor
  · rintro ⟨h1, h2⟩
    unfold termV at h2
    rw [if_pos h1] at h2
    rw [termB_iff] at h1
    exact ⟨h1.1, h1.2, h2⟩
  · rintro ⟨h1, h2, h3⟩
    have hb : termB s i = true := (termB_iff s i).2 ⟨h1, h2⟩
    exact ⟨hb, by unfold termV; rw [if_pos hb]; exact h3⟩
theorem lt_eq (s : St) : s.lt = entT s s.es.length := by
  unfold St.lt entT
  rw [lastT_eq]
theorem termV_last (s : St) : termB s s.last = true ∧ termV s s.last = s.lt := by
  have hb : termB s s.last = true := (termB_iff s _).2 ⟨by unfold St.last; omega, Int.le_refl _⟩
  refine ⟨hb, ?_⟩
  unfold termV
  rw [if_pos hb, lt_eq, show (s.last - s.base).toNat = s.es.length by unfold St.last; omega]
theorem entT_mono {s : St} (h : s.Ok) (j k : Nat) (hjk : j ≤ k) (hk : k ≤ s.es.length) : entT s j ≤ entT s k := by
  unfold entT
  by_cases h0 : j = 0
  · rw [if_pos h0]
    by_cases h1 : k = 0
    · rw [if_pos h1]; exact Int.le_refl _
    · rw [if_neg h1]; exact (fol_at h.fo (k - 1) (by omega)).2
  · rw [if_neg h0, if_neg (by omega)]
    exact fol_mono h.fo _ _ (by omega) (by omega)
/-- the entries that are told from one on -/
def getE (s : St) (from_ most : Int) : List En := if from_ < s.base + 1 ∨ s.last < from_ ∨ most < 1 then [] else (s.es.drop (from_ - s.base - 1).toNat).take most.toNat

/-! ### Add -/
def addC (s : St) (l : List En) : Int := if okL l = true then (if fol l s.last s.lt = true then 0 else 7) else 1
def stAdd (s : St) (l : List En) : St := if okL l = true ∧ fol l s.last s.lt = true then { s with es := s.es ++ l } else s
theorem len_le {l : List En} {i t : Int} (ho : okL l = true) (hf : fol l i t = true) (hi : i ≤ 1099511627776) : i + l.length ≤ 1099511627776 := by
  rcases Nat.eq_zero_or_pos l.length with h | h
  · omega
  · have h1 := (fol_at hf (l.length - 1) (by omega)).1
    have h2 := (okE_iff _).1 (okL_mem ho (e := l.getD (l.length - 1) en0) (by rw [List.getD_eq_getElem?_getD, List.getElem?_eq_getElem (by omega)]; exact List.getElem_mem _))
    omega
theorem stAdd_ok {s : St} (h : s.Ok) (l : List En) : (stAdd s l).Ok := by
  unfold stAdd
  split
  · next hc =>
    obtain ⟨h1, h2⟩ := hc
    have hl := len_le h1 h2 h.bl
    refine ⟨h.b0, ?_, h.t0, h.t1, h.ba, h.ac, ?_, ?_, ?_⟩
    · simp only [St.last, List.length_append] at *; omega
    · have := h.cl; simp only [St.last, List.length_append] at *; omega
    · show okL (s.es ++ l) = true
      rw [okL_append, h.ok, h1]; rfl
    · show fol (s.es ++ l) s.base s.bt = true
      rw [fol_append]; exact ⟨h.fo, h2⟩
  · exact h

/-! ### Merge -/
def mis (s : St) : List En → List En
  | [] => []
  | e :: r => if hasB s e.idx e.term = true then mis s r else e :: r
def skp (b : Int) : List En → List En
  | [] => []
  | e :: r => if e.idx ≤ b then skp b r else e :: r
def repl (s : St) (e : En) (r : List En) : St := { s with es := s.es.take (e.idx - 1 - s.base).toNat ++ (e :: r) }
def mrgL (s : St) : List En → Int × Int × St
  | [] => (0, 0, s)
  | e :: r => if e.idx ≤ s.com then (0, 9, s) else (e.idx, 0, repl s e r)
def mrgA (s : St) (i t : Int) (l : List En) : Int × Int × St := if hasB s i t = true then mrgL s (mis s l) else (0, 7, s)
def mrgB (s : St) : List En → Int × Int × St
  | [] => (0, 0, s)
  | e :: r => if e.term < s.bt then (0, 7, s) else mrgA s s.base s.bt (e :: r)
def mrg (s : St) (i t : Int) (l : List En) : Int × Int × St :=
  if okL l = true ∧ fol l i t = true then (if i < s.base then mrgB s (skp s.base l) else mrgA s i t l) else (0, 1, s)
/-- what is left of a list that follows, of which the log has those ahead -/
theorem mis_drop (s : St) : ∀ (l : List En) (i t : Int), fol l i t = true → hasB s i t = true → ∃ k, k ≤ l.length ∧ mis s l = l.drop k ∧ (∀ j, j < k → hasB s (l.getD j en0).idx (l.getD j en0).term = true) ∧ (k < l.length → hasB s (l.getD k en0).idx (l.getD k en0).term = false) ∧ hasB s (i + k) (lastT t (l.take k)) = true
  | [], i, t, _, hh => ⟨0, Nat.le_refl _, rfl, (fun j hj => by omega), (fun h => by simp at h), by simpa [lastT] using hh⟩
  | e :: r, i, t, h, hh => by
    rw [fol_cons] at h
    obtain ⟨h1, h2, h3⟩ := h
    by_cases he : hasB s e.idx e.term = true
    · obtain ⟨k, k1, k2, k3, k4, k5⟩ := mis_drop s r (i + 1) e.term h3 (by rw [← h1]; exact he)
      refine ⟨k + 1, by simp; omega, by simp only [mis]; rw [if_pos he, k2]; rfl, ?_, ?_, ?_⟩
      · intro j hj
        cases j with
        | zero => simpa using he
        | succ j => simpa using k3 j (by omega)
      · intro hk
        simpa using k4 (by simpa using hk)
      · rw [List.take_succ_cons]
        simp only [lastT]
        rw [show i + ((k + 1 : Nat) : Int) = i + 1 + (k : Int) by omega]
        exact k5
    · refine ⟨0, Nat.zero_le _, by simp only [mis]; rw [if_neg he]; rfl, (fun j hj => by omega), (fun _ => by simpa using he), by simpa [lastT] using hh⟩
theorem skp_drop (b : Int) : ∀ (l : List En) (i t : Int), fol l i t = true → i < b → ∃ k, k ≤ l.length ∧ skp b l = l.drop k ∧ (k < l.length → i + k = b)
  | [], i, t, _, _ => ⟨0, Nat.le_refl _, rfl, fun h => by simp at h⟩
  | e :: r, i, t, h, hi => by
    rw [fol_cons] at h
    obtain ⟨h1, h2, h3⟩ := h
    have hle : e.idx ≤ b := by omega
    by_cases hb : i + 1 < b
    · obtain ⟨k, k1, k2, k3⟩ := skp_drop b r (i + 1) e.term h3 hb
      exact ⟨k + 1, by simp; omega, by simp only [skp]; rw [if_pos hle, k2]; rfl, fun hk => by have := k3 (by simpa using hk); omega⟩
    · refine ⟨1, by simp, ?_, fun _ => by omega⟩
      simp only [skp]
      rw [if_pos hle]
      cases r with
      | nil => rfl
      | cons x r =>
        rw [fol_cons] at h3
        simp only [skp]
        rw [if_neg (by omega)]
        rfl
theorem skp_fol {s : St} {l : List En} {i t : Int} (h : fol l i t = true) (hi : i < s.base) {e : En} {r : List En} (hs : skp s.base l = e :: r) (ht : ¬ e.term < s.bt) : fol (e :: r) s.base s.bt = true := by
  obtain ⟨k, k1, k2, k3⟩ := skp_drop s.base l i t h hi
  rw [hs] at k2
  have hk : k < l.length := by
    rcases Nat.lt_or_ge k l.length with h | h
    · exact h
    · rw [List.drop_eq_nil_of_le h] at k2; cases k2
  have := fol_drop h k k1
  rw [← k2, k3 hk] at this
  rw [fol_cons] at this ⊢
  exact ⟨this.1, by omega, this.2.2⟩
theorem repl_facts {s : St} (h : s.Ok) {l : List En} {i t : Int} (ho : okL l = true) (hf : fol l i t = true) (hh : hasB s i t = true) {e : En} {r : List En} (hm : mis s l = e :: r) :
    s.base + 1 ≤ e.idx ∧ e.idx ≤ s.last + 1 ∧ hasB s e.idx e.term = false ∧ hasB s (e.idx - 1) (entT s (e.idx - 1 - s.base).toNat) = true ∧ entT s (e.idx - 1 - s.base).toNat ≤ e.term ∧ okL (e :: r) = true ∧ fol (e :: r) (e.idx - 1) (entT s (e.idx - 1 - s.base).toNat) = true := by
  obtain ⟨k, k1, k2, k3, k4, k5⟩ := mis_drop s l i t hf hh
  rw [hm] at k2
  have hk : k < l.length := by
    rcases Nat.lt_or_ge k l.length with h | h
    · exact h
    · rw [List.drop_eq_nil_of_le h] at k2; cases k2
  have he : l.getD k en0 = e := by
    rw [List.drop_eq_getElem_cons hk] at k2
    injection k2 with k2 _
    rw [List.getD_eq_getElem?_getD, List.getElem?_eq_getElem hk]
    exact k2.symm
  have h4 := k4 hk
  rw [he] at h4
  have hfd := fol_drop hf k k1
  rw [← k2] at hfd
  have hod := okL_drop ho k
  rw [← k2] at hod
  obtain ⟨g1, g2, g3⟩ := (hasB_iff _ _ _).1 k5
  have hi : e.idx = i + k + 1 := ((fol_cons _ _ _ _).1 hfd).1
  have ht := ((fol_cons _ _ _ _).1 hfd).2.1
  rw [show e.idx - 1 = i + k by omega]
  rw [g3]
  exact ⟨by omega, by omega, h4, k5, ht, hod, hfd⟩
theorem repl_ok {s : St} (h : s.Ok) {l : List En} {i t : Int} (ho : okL l = true) (hf : fol l i t = true) (hh : hasB s i t = true) {e : En} {r : List En} (hm : mis s l = e :: r) (hc : ¬ e.idx ≤ s.com) : (repl s e r).Ok := by
  obtain ⟨a1, a2, a3, a4, a5, a6, a7⟩ := repl_facts h ho hf hh hm
  have hb0 := h.b0
  have hba := h.ba
  have hac := h.ac
  have hcl := h.cl
  obtain ⟨n, hn⟩ : ∃ n : Nat, e.idx = s.base + 1 + n := ⟨(e.idx - s.base - 1).toNat, by omega⟩
  have hN : (e.idx - 1 - s.base).toNat = n := by omega
  have hnl : n ≤ s.es.length := by unfold St.last at a2; omega
  have htl : (s.es.take n).length = n := by rw [List.length_take, Nat.min_eq_left hnl]
  have hlt : lastT s.bt (s.es.take n) = entT s n := by
    unfold entT
    by_cases h0 : n = 0
    · subst h0; rfl
    · rw [if_neg h0, lastT_take n (by omega) hnl]
  rw [hN] at a5 a7
  have hll := len_le a6 a7 (by have := (okE_iff _).1 (okL_mem a6 (e := e) (by simp)); omega)
  unfold repl
  rw [hN]
  refine ⟨hb0, ?_, h.t0, h.t1, hba, hac, ?_, ?_, ?_⟩
  · simp only [St.last, List.length_append, htl] at *; omega
  · simp only [St.last, List.length_append, htl, List.length_cons] at *; omega
  · show okL (s.es.take n ++ (e :: r)) = true
    rw [okL_append, okL_take h.ok, a6]; rfl
  · show fol (s.es.take n ++ (e :: r)) s.base s.bt = true
    rw [fol_append, htl, hlt]
    refine ⟨fol_take h.fo n, ?_⟩
    rw [show s.base + (n : Int) = e.idx - 1 by omega]
    exact a7
theorem mrgA_ok {s : St} (h : s.Ok) {l : List En} {i t : Int} (ho : okL l = true) (hf : fol l i t = true) : (mrgA s i t l).2.2.Ok := by
  unfold mrgA
  split
  · next hh =>
    cases hm : mis s l with
    | nil => exact h
    | cons e r =>
      simp only [mrgL]
      split
      · exact h
      · next hc => exact repl_ok h ho hf hh hm hc
  · exact h
theorem skp_okL (b : Int) : ∀ {l : List En}, okL l = true → okL (skp b l) = true
  | [], _ => rfl
  | e :: r, h => by
    simp only [skp]
    split
    · exact skp_okL b (l := r) (by unfold okL at *; simp only [List.all_cons, Bool.and_eq_true] at h; exact h.2)
    · exact h
theorem mrg_ok {s : St} (h : s.Ok) (l : List En) (i t : Int) : (mrg s i t l).2.2.Ok := by
  unfold mrg
  split
  · next hc =>
    obtain ⟨h1, h2⟩ := hc
    split
    · next hi =>
      cases hs : skp s.base l with
      | nil => exact h
      | cons e r =>
        simp only [mrgB]
        split
        · exact h
        · next ht => exact mrgA_ok h (by rw [← hs]; exact skp_okL _ h1) (skp_fol h2 hi hs ht)
    · exact mrgA_ok h h1 h2
  · exact h

/-! ### Commit, Apply, Compact, Reset -/
def comC (s : St) (i : Int) : Int := if s.com ≤ i ∧ i ≤ s.last then 0 else 7
def stCom (s : St) (i : Int) : St := if s.com ≤ i ∧ i ≤ s.last then { s with com := i } else s
def appC (s : St) (i : Int) : Int := if s.app ≤ i ∧ i ≤ s.com then 0 else 7
def stApp (s : St) (i : Int) : St := if s.app ≤ i ∧ i ≤ s.com then { s with app := i } else s
def cptC (s : St) (i : Int) : Int := if s.base ≤ i ∧ i ≤ s.app then 0 else 7
def stCpt (s : St) (i : Int) : St := if s.base ≤ i ∧ i ≤ s.app then { s with base := i, bt := entT s (i - s.base).toNat, es := s.es.drop (i - s.base).toNat } else s
def rstC (s : St) (i t : Int) : Int := if okN i = true ∧ okN t = true then (if s.com ≤ i then 0 else 7) else 1
def stRst (s : St) (i t : Int) : St := if okN i = true ∧ okN t = true ∧ s.com ≤ i then st0 i t else s
theorem stCom_ok {s : St} (h : s.Ok) (i : Int) : (stCom s i).Ok := by
  unfold stCom
  split
  · next hc => exact ⟨h.b0, h.bl, h.t0, h.t1, h.ba, (by have := h.ac; exact Int.le_trans this hc.1), hc.2, h.ok, h.fo⟩
  · exact h
theorem stApp_ok {s : St} (h : s.Ok) (i : Int) : (stApp s i).Ok := by
  unfold stApp
  split
  · next hc => exact ⟨h.b0, h.bl, h.t0, h.t1, (by have := h.ba; exact Int.le_trans this hc.1), hc.2, h.cl, h.ok, h.fo⟩
  · exact h
theorem entT_bd {s : St} (h : s.Ok) (k : Nat) (hk : k ≤ s.es.length) : 0 ≤ entT s k ∧ entT s k ≤ 1099511627776 := by
  unfold entT
  split
  · exact ⟨h.t0, h.t1⟩
  · have := (okE_iff _).1 (okL_mem h.ok (e := s.es.getD (k - 1) en0) (by rw [List.getD_eq_getElem?_getD, List.getElem?_eq_getElem (by omega)]; exact List.getElem_mem _))
    omega
theorem stCpt_ok {s : St} (h : s.Ok) (i : Int) : (stCpt s i).Ok := by
  unfold stCpt
  split
  · next hc =>
    obtain ⟨k, hk⟩ : ∃ k : Nat, i = s.base + k := ⟨(i - s.base).toNat, by omega⟩
    have hN : (i - s.base).toNat = k := by omega
    have h1 := h.b0
    have h2 := h.bl
    have h3 := h.ac
    have h4 := h.cl
    have hkl : k ≤ s.es.length := by unfold St.last at *; omega
    have hb := entT_bd h k hkl
    rw [hN]
    refine ⟨by show 0 ≤ i; omega, ?_, hb.1, hb.2, hc.2, h.ac, ?_, okL_drop h.ok k, ?_⟩
    · simp only [St.last, List.length_drop] at *; omega
    · simp only [St.last, List.length_drop] at *; omega
    · show fol (s.es.drop k) i (entT s k) = true
      have := fol_drop h.fo k hkl
      rw [← hk] at this
      refine fol_low this ?_
      unfold entT
      split
      · next h0 => subst h0; exact Int.le_refl _
      · rw [lastT_take k (by omega) hkl]; exact Int.le_refl _
  · exact h
theorem stRst_ok {s : St} (h : s.Ok) (i t : Int) : (stRst s i t).Ok := by
  unfold stRst
  split
  · next hc => exact st0_ok hc.1 hc.2.1
  · exact h
end Go.Proofs.YtjadfpcipicckaaGreat.Rg
