/-
  How the model rounds: in order, and what is a float already stays as it is; products and whole parts of floats. Conditions: as each theorem states.
-/
import Derived.Test.YtofbioefckdmbaaFareMath
namespace Go.Proofs.Ytofbioefckdmbaa.Fr
open Ieee

/-- To the nearest, and of two to the even one: n / d. -/
def rne (n d : Nat) : Nat := n / d + if d < 2 * (n % d) ∨ (d = 2 * (n % d) ∧ n / d % 2 = 1) then 1 else 0

theorem lt_log2 (n : Nat) : n < 2 ^ (n.log2 + 1) := Nat.lt_log2_self

theorem shl_one (k : Nat) : 1 <<< k = 2 ^ k := by rw [Nat.shiftLeft_eq, Nat.one_mul]

theorem cut_even (s : Bool) (n drop : Nat) : Toward.even.cut s n drop = rne n (2 ^ drop) := by
  unfold Toward.cut
  simp only [shl_one]
  by_cases h : drop ≤ n.log2 + 2
  · rw [Nat.min_eq_left h]
    unfold rne
    by_cases h1 : 2 ^ drop < 2 * (n % 2 ^ drop)
    · simp [h1]
    · by_cases h2 : 2 ^ drop = 2 * (n % 2 ^ drop)
      · by_cases h3 : n / 2 ^ drop % 2 = 1
        · simp [h3, ← h2]
        · simp [h3, ← h2]
      · simp [h1, h2]
  · have hm : min drop (n.log2 + 2) = n.log2 + 2 := by omega
    rw [hm]
    have hn := lt_log2 n
    have hp : 2 ^ (n.log2 + 2) = 2 * 2 ^ (n.log2 + 1) := by rw [Nat.pow_succ]; omega
    have hq : 2 ^ (n.log2 + 2) ≤ 2 ^ drop := Nat.pow_le_pow_right (by decide) (by omega)
    unfold rne
    rw [Nat.div_eq_of_lt (by omega), Nat.mod_eq_of_lt (by omega), Nat.div_eq_of_lt (a := n) (b := 2 ^ drop) (by omega), Nat.mod_eq_of_lt (a := n) (b := 2 ^ drop) (by omega)]
    have e1 : ¬ 2 ^ (n.log2 + 2) < 2 * n := by omega
    have e2 : ¬ 2 ^ drop < 2 * n := by omega
    simp [e1, e2]

theorem cut_zero (s : Bool) (n drop : Nat) : Toward.zero.cut s n drop = n / 2 ^ drop := by
  unfold Toward.cut
  simp only [shl_one]
  by_cases h : drop ≤ n.log2 + 2
  · rw [Nat.min_eq_left h]; simp
  · have hm : min drop (n.log2 + 2) = n.log2 + 2 := by omega
    rw [hm]
    have hn := lt_log2 n
    have hp : 2 ^ (n.log2 + 2) = 2 * 2 ^ (n.log2 + 1) := by rw [Nat.pow_succ]; omega
    have hq : 2 ^ (n.log2 + 2) ≤ 2 ^ drop := Nat.pow_le_pow_right (by decide) (by omega)
    rw [Nat.div_eq_of_lt (by omega), Nat.div_eq_of_lt (a := n) (b := 2 ^ drop) (by omega)]
    simp

theorem rne_spec (n d : Nat) (hd : 0 < d) : ∃ k, rne n d = k ∧ 2 * (k * d) ≤ 2 * n + d ∧ 2 * n ≤ 2 * (k * d) + d ∧ (2 * (k * d) = 2 * n + d → k % 2 = 0) ∧ (2 * n = 2 * (k * d) + d → k % 2 = 0) := by
  have h1 := Nat.div_add_mod n d
  have h2 := Nat.mod_lt n hd
  rw [Nat.mul_comm] at h1
  refine ⟨_, rfl, ?_⟩
  unfold rne
  generalize n / d = q at *
  generalize n % d = r at *
  split
  · rw [Nat.add_mul, Nat.one_mul]
    generalize q * d = z at *
    omega
  · rw [Nat.add_zero]
    generalize q * d = z at *
    omega

theorem rne_mono {n d n' d' : Nat} (hd : 0 < d) (hd' : 0 < d') (h : n * d' ≤ n' * d) : rne n d ≤ rne n' d' := by
  obtain ⟨k, e, a1, a2, a3, a4⟩ := rne_spec n d hd
  obtain ⟨k', e', b1, b2, b3, b4⟩ := rne_spec n' d' hd'
  rw [e, e']
  apply Nat.le_of_not_lt
  intro hlt
  -- (2 k - 1) d ≤ 2 n, 2 n' ≤ (2 k' + 1) d'
  have c1 : 2 * (k * d) * d' ≤ (2 * n + d) * d' := Nat.mul_le_mul_right _ a1
  have c2 : 2 * n' * d ≤ (2 * (k' * d') + d') * d := Nat.mul_le_mul_right _ b2
  have m1 : 2 * (k * d) * d' = 2 * (k * (d * d')) := by rw [Nat.mul_assoc, Nat.mul_assoc k]
  have m2 : (2 * n + d) * d' = 2 * (n * d') + d * d' := by rw [Nat.add_mul, Nat.mul_assoc]
  have m3 : (2 * (k' * d') + d') * d = 2 * (k' * (d * d')) + d * d' := by rw [Nat.add_mul, Nat.mul_assoc, Nat.mul_assoc k', Nat.mul_comm d' d]
  have m4 : 2 * n' * d = 2 * (n' * d) := Nat.mul_assoc _ _ _
  rw [m1, m2] at c1
  rw [m3, m4] at c2
  have hD : 0 < d * d' := Nat.mul_pos hd hd'
  have hk : k = k' + 1 := by
    apply Nat.le_antisymm _ hlt
    have c3 : 2 * (k * (d * d')) ≤ 2 * (k' * (d * d')) + 2 * (d * d') := by omega
    have c4 : k * (d * d') ≤ (k' + 1) * (d * d') := by rw [Nat.add_mul, Nat.one_mul]; omega
    exact Nat.le_of_mul_le_mul_right c4 hD
  subst hk
  have m5 : (k' + 1) * (d * d') = k' * (d * d') + d * d' := by rw [Nat.add_mul, Nat.one_mul]
  rw [m5] at c1
  have f1 : 2 * (n * d') = 2 * (k' * (d * d')) + d * d' := by omega
  have f2 : 2 * (n' * d) = 2 * (k' * (d * d')) + d * d' := by omega
  have g1 : 2 * n = 2 * (k' * d) + d := by
    apply Nat.eq_of_mul_eq_mul_right hd'
    rw [Nat.add_mul, Nat.mul_assoc, Nat.mul_assoc, Nat.mul_assoc k']; exact f1
  have g2 : 2 * n' = 2 * (k' * d') + d' := by
    apply Nat.eq_of_mul_eq_mul_right hd
    rw [Nat.add_mul, Nat.mul_assoc, Nat.mul_assoc, Nat.mul_assoc k', Nat.mul_comm d' d]; exact f2
  have p1 := b4 g2
  have p2 := a3 (by rw [Nat.add_mul, Nat.one_mul]; omega)
  omega

theorem rne_scale (n d c : Nat) (hd : 0 < d) (hc : 0 < c) : rne (n * c) (d * c) = rne n d :=
  Nat.le_antisymm (rne_mono (Nat.mul_pos hd hc) hd (by rw [Nat.mul_assoc, Nat.mul_comm c d]; exact Nat.le_refl _)) (rne_mono hd (Nat.mul_pos hd hc) (by rw [Nat.mul_assoc, Nat.mul_comm c d]; exact Nat.le_refl _))
theorem rne_whole (k d : Nat) (hd : 0 < d) : rne (k * d) d = k := by
  unfold rne
  rw [Nat.mul_div_cancel _ hd, Nat.mul_mod_left]
  have : ¬ d < 2 * 0 := by omega
  have : ¬ d = 2 * 0 := by omega
  simp_all

/-- The place of the last digit that is kept, and the rung: of X units of 2 ^ -1274. -/
def lst (X : Nat) : Nat := max (X.log2 - 52) 200
def RR (X : Nat) : Nat := (lst X - 200) * 2 ^ 52 + rne X (2 ^ lst X)

theorem log2_mul_pow (m e : Nat) (h : m ≠ 0) : (m * 2 ^ e).log2 = m.log2 + e := by
  have h0 : m * 2 ^ e ≠ 0 := Nat.mul_ne_zero h (Nat.pos_iff_ne_zero.1 (Nat.two_pow_pos _))
  refine (Nat.log2_eq_iff h0).2 ⟨?_, ?_⟩
  · rw [Nat.pow_add]; exact Nat.mul_le_mul_right _ (Nat.log2_self_le h)
  · rw [show m.log2 + e + 1 = (m.log2 + 1) + e by omega, Nat.pow_add]; exact Nat.mul_lt_mul_of_pos_right (lt_log2 m) (Nat.two_pow_pos _)

theorem nearest_eq (s : Bool) (m e : Nat) : double.nearest s m (-1274 + (e : Int)) = double.word s (min (RR (m * 2 ^ e)) top) := by
  by_cases hm : m = 0
  · subst hm
    unfold Format.nearest
    rw [if_pos rfl, Nat.zero_mul, show min (RR 0) top = 0 by decide]
  · unfold Format.nearest
    rw [if_neg hm]
    simp only [show double.binade = 2 ^ 52 from rfl, show double.infRung = top from by decide, show double.leastPlace = -1074 from by decide, show double.fractionBits = 52 from rfl]
    have hl : lst (m * 2 ^ e) = max (m.log2 + e - 52) 200 := by unfold lst; rw [log2_mul_pow m e hm]
    unfold RR
    rw [hl]
    generalize hL : max (m.log2 + e - 52) 200 = l
    have e1 : max (-1274 + (e : Int) + (m.log2 : Int) - ((52 : Nat) : Int)) (-1074) = -1274 + (l : Int) := by omega
    rw [e1, cut_even, show (-1274 + (l : Int) - -1074).toNat = l - 200 by omega, show (-1274 + (e : Int) - (-1274 + (l : Int))).toNat = e - l by omega, show (-1274 + (l : Int) - (-1274 + (e : Int))).toNat = l - e by omega, Nat.shiftLeft_eq]
    congr 3
    by_cases h : e ≤ l
    · rw [show e - l = 0 by omega, Nat.pow_zero, Nat.mul_one, ← rne_scale m (2 ^ (l - e)) (2 ^ e) (Nat.two_pow_pos _) (Nat.two_pow_pos _), ← Nat.pow_add, show l - e + e = l by omega]
    · rw [show l - e = 0 by omega, Nat.pow_zero, ← rne_scale (m * 2 ^ (e - l)) 1 (2 ^ l) (by omega) (Nat.two_pow_pos _), Nat.mul_assoc, ← Nat.pow_add, Nat.one_mul, show e - l + l = e by omega]

theorem log2_mono {a b : Nat} (h : a ≤ b) : a.log2 ≤ b.log2 := by
  by_cases ha : a = 0
  · subst ha; simp
  · have hb : b ≠ 0 := by omega
    exact (Nat.le_log2 hb).2 (Nat.le_trans (Nat.log2_self_le ha) h)

theorem RR_mono {X Y : Nat} (h : X ≤ Y) : RR X ≤ RR Y := by
  have hl := log2_mono h
  unfold RR
  have l1 : lst X ≤ lst Y := by unfold lst; omega
  by_cases he : lst X = lst Y
  · rw [he]
    exact Nat.add_le_add_left (rne_mono (Nat.two_pow_pos _) (Nat.two_pow_pos _) (Nat.mul_le_mul_right _ h)) _
  · have hY : lst Y = Y.log2 - 52 := by unfold lst at *; omega
    have hY2 : 52 < Y.log2 := by unfold lst at *; omega
    have hX : X.log2 ≤ lst X + 52 := by unfold lst; omega
    have hY0 : Y ≠ 0 := by intro h0; subst h0; simp at hY2
    have b1 : 2 ^ 52 ≤ rne Y (2 ^ lst Y) := by
      rw [← rne_whole (2 ^ 52) (2 ^ lst Y) (Nat.two_pow_pos _)]
      refine rne_mono (Nat.two_pow_pos _) (Nat.two_pow_pos _) (Nat.mul_le_mul_right _ ?_)
      rw [← Nat.pow_add, show 52 + lst Y = Y.log2 by omega]
      exact Nat.log2_self_le hY0
    have b2 : rne X (2 ^ lst X) ≤ 2 ^ 53 := by
      rw [← rne_whole (2 ^ 53) (2 ^ lst X) (Nat.two_pow_pos _)]
      refine rne_mono (Nat.two_pow_pos _) (Nat.two_pow_pos _) (Nat.mul_le_mul_right _ ?_)
      rw [← Nat.pow_add]
      exact Nat.le_trans (Nat.le_of_lt (lt_log2 X)) (Nat.pow_le_pow_right (by decide) (by omega))
    have b3 : 200 ≤ lst X := by unfold lst; omega
    omega

theorem RR_V (r : Nat) : RR (V r * 2 ^ 200) = r := by
  obtain ⟨e, k, rfl, hk, h'⟩ := rung_form r
  rw [V_at e k hk h', Nat.mul_assoc, ← Nat.pow_add]
  have hl : lst (k * 2 ^ (e + 200)) = e + 200 := by
    by_cases h0 : k = 0
    · subst h0
      obtain rfl : e = 0 := by omega
      rw [Nat.zero_mul]; decide
    · unfold lst
      rw [log2_mul_pow k _ h0]
      have a1 : k.log2 < 53 := (Nat.log2_lt h0).2 hk
      rcases h' with rfl | h'
      · omega
      · have a2 : 52 ≤ k.log2 := (Nat.le_log2 h0).2 h'
        omega
  unfold RR
  rw [hl, rne_whole _ _ (Nat.two_pow_pos _), Nat.add_sub_cancel]
end Go.Proofs.Ytofbioefckdmbaa.Fr
