/-
  Layer 13, the mathematics: names of seats, and how a name is taken apart. No condition.
-/
import Derived.Test.YtnmmpiddmckghaaDoorSeMath
import Derived.Lib.ItoaNum
namespace Go.Proofs.YtnmmpiddmckghaaDoor.Se
open Go.Proofs.YtnmmpiddmckghaaDoor.Qu Go.Proofs.YtnmmpiddmckghaaDoor.Fld
set_option linter.unusedVariables false

def letU : List UInt8 := [65, 66, 67, 68, 69, 70, 71, 72, 74, 75]
def decU (k : Nat) : List UInt8 := if k < 10 then [UInt8.ofNat (48 + k)] else [UInt8.ofNat (48 + k / 10), UInt8.ofNat (48 + k % 10)]
theorem decU_is (k : Nat) (h : k < 100) : Lib.decDigits k = decU k := by
  unfold decU
  rw [Lib.decDigits]
  by_cases h1 : k < 10
  · rw [dif_pos h1, if_pos h1]
  · rw [dif_neg h1, if_neg h1, Lib.decDigits, dif_pos (by omega)]
    rfl
/-- the name of the seat in a row and a column, both from 0 on -/
def labU (row col : Nat) : List UInt8 := decU (row + 1) ++ [letU.getD col 0]
def labS (row col : Nat) : ByteArray := ⟨(labU row col).toArray⟩
/-- a letter's column -/
def plc (b : Nat) : Option Nat := (letU.map UInt8.toNat).idxOf? b
/-- a name taken apart; row is what its digits so far make -/
def rd : Nat → List UInt8 → Option (Nat × Nat)
  | _, [] => none
  | row, b :: rest =>
    if 48 ≤ b.toNat ∧ b.toNat ≤ 57 then
      (if row * 10 + (b.toNat - 48) = 0 ∨ 60 < row * 10 + (b.toNat - 48) then none else rd (row * 10 + (b.toNat - 48)) rest)
    else match plc b.toNat with
      | none => none
      | some c => if rest = [] ∧ row ≠ 0 then some (row - 1, c) else none
set_option maxRecDepth 100000 in
theorem rd_lab : ∀ row, row < 60 → ∀ col, col < 10 → rd 0 (labU row col) = some (row, col) := by
  decide +kernel
theorem u8_ext {a b : UInt8} (h : a.toNat = b.toNat) : a = b := UInt8.toNat_inj.1 h
theorem plc_at {b c : Nat} (h : plc b = some c) : c < 10 ∧ (letU.getD c 0).toNat = b := by
  unfold plc at h
  rw [List.idxOf?_eq_some_iff] at h
  obtain ⟨hc, he, _⟩ := h
  have hc' : c < 10 := by simpa [letU] using hc
  refine ⟨hc', ?_⟩
  rw [List.getElem_map] at he
  rw [List.getD_eq_getElem?_getD, List.getElem?_eq_getElem (by simpa using hc)]
  simpa using he
/-- how one digit goes on, or the letter ends it -/
theorem rd_cons {row : Nat} {b : UInt8} {rest : List UInt8} {p : Nat × Nat} (h : rd row (b :: rest) = some p) :
    (48 ≤ b.toNat ∧ b.toNat ≤ 57 ∧ 1 ≤ row * 10 + (b.toNat - 48) ∧ row * 10 + (b.toNat - 48) ≤ 60 ∧ rd (row * 10 + (b.toNat - 48)) rest = some p) ∨
    (rest = [] ∧ row ≠ 0 ∧ p.1 = row - 1 ∧ p.2 < 10 ∧ b = letU.getD p.2 0) := by
  unfold rd at h
  split at h
  · rename_i hd
    split at h
    · cases h
    · rename_i hz
      exact .inl ⟨hd.1, hd.2, by omega, by omega, h⟩
  · split at h
    · cases h
    · rename_i c hc
      split at h
      · rename_i hr
        have := Option.some.inj h
        subst this
        obtain ⟨h1, h2⟩ := plc_at hc
        exact .inr ⟨hr.1, hr.2, rfl, h1, u8_ext h2.symm⟩
      · cases h
theorem of_u8 {b : UInt8} {n : Nat} (h : b.toNat = n) : b = UInt8.ofNat n := by
  have := b.toNat_lt
  apply u8_ext
  rw [UInt8.toNat_ofNat']
  omega
/-- what is taken apart is the name of what comes out -/
theorem rd_is {s : List UInt8} {p : Nat × Nat} (h : rd 0 s = some p) : s = labU p.1 p.2 ∧ p.1 < 60 ∧ p.2 < 10 := by
  cases s with
  | nil => cases h
  | cons b r =>
    rcases rd_cons h with ⟨h1, h2, h3, h4, h5⟩ | ⟨_, h2, _⟩
    · rw [Nat.zero_mul, Nat.zero_add] at h3 h4 h5
      obtain ⟨d, hd⟩ : ∃ d, b.toNat - 48 = d := ⟨_, rfl⟩
      rw [hd] at h3 h4 h5
      have hb := of_u8 (show b.toNat = 48 + d by omega)
      cases r with
      | nil => cases h5
      | cons b2 r2 =>
        rcases rd_cons h5 with ⟨k1, k2, k3, k4, k5⟩ | ⟨k1, k2, k3, k4, k5⟩
        · obtain ⟨d2, hd2⟩ : ∃ d, b2.toNat - 48 = d := ⟨_, rfl⟩
          rw [hd2] at k3 k4 k5
          have hb2 := of_u8 (show b2.toNat = 48 + d2 by omega)
          cases r2 with
          | nil => cases k5
          | cons b3 r3 =>
            rcases rd_cons k5 with ⟨m1, m2, m3, m4, m5⟩ | ⟨m1, m2, m3, m4, m5⟩
            · omega
            · refine ⟨?_, by omega, m4⟩
              subst m1
              rw [hb, hb2, m5, labU, decU, m3, if_neg (by omega), show (d * 10 + d2 - 1 + 1) / 10 = d by omega, show (d * 10 + d2 - 1 + 1) % 10 = d2 by omega]
              rfl
        · refine ⟨?_, by omega, k4⟩
          subst k1
          rw [hb, k5, labU, decU, k3, if_pos (by omega), show d - 1 + 1 = d by omega]
          rfl
    · exact absurd rfl h2
theorem lab_inj {a b c d : Nat} (ha : a < 60) (hb : b < 10) (hc : c < 60) (hd : d < 10) (h : labU a b = labU c d) : a = c ∧ b = d := by
  have h1 := rd_lab a ha b hb
  rw [h, rd_lab c hc d hd] at h1
  have := Option.some.inj h1
  exact ⟨(Prod.mk.inj this).1.symm, (Prod.mk.inj this).2.symm⟩
theorem labS_list (a b : Nat) : (labS a b).toList = labU a b := by rw [ByteArray.toList_eq]; rfl
theorem labS_size (a b : Nat) : (labS a b).size ≤ 3 := by
  show (labU a b).toArray.size ≤ 3
  unfold labU decU
  split <;> simp

/-- the name of a seat of a layout -/
def nm (gs : List Int) (n : Int) : ByteArray := labS (n / gs.sum).toNat (n % gs.sum).toNat
theorem nm_inj {r : Int} {gs : List Int} {a b : Int} (ha0 : 0 ≤ a) (ha : a < cntS r gs) (hb0 : 0 ≤ b) (hb : b < cntS r gs) (h : nm gs a = nm gs b) : a = b := by
  obtain ⟨hl, _⟩ := lay_cnt ha0 ha
  obtain ⟨_, k2, _, _, _, k6, _⟩ := lay_of hl
  obtain ⟨a1, a2, a3, a4, a5⟩ := row_lt ha0 ha
  obtain ⟨b1, b2, b3, b4, b5⟩ := row_lt hb0 hb
  have h2 : labU (a / gs.sum).toNat (a % gs.sum).toNat = labU (b / gs.sum).toNat (b % gs.sum).toNat := by
    rw [← labS_list, ← labS_list]
    exact congrArg ByteArray.toList h
  obtain ⟨h3, h4⟩ := lab_inj (by omega) (by omega) (by omega) (by omega) h2
  rw [a5, b5, show a / gs.sum = b / gs.sum by omega, show a % gs.sum = b % gs.sum by omega]
/-- the answer of Find: the seat, and what is amiss -/
def fndE (r : Int) (gs : List Int) (s : List UInt8) : Int :=
  if layOk r gs = true then (match rd 0 s with
    | some (a, b) => if (a : Int) < r ∧ (b : Int) < gs.sum then 0 else 2
    | none => 2) else 1
def fndN (r : Int) (gs : List Int) (s : List UInt8) : Int :=
  if fndE r gs s = 0 then (match rd 0 s with
    | some (a, b) => (a : Int) * gs.sum + b
    | none => 0) else 0
theorem fnd_yes {r : Int} {gs : List Int} {n : Int} (h0 : 0 ≤ n) (h1 : n < cntS r gs) : fndE r gs (nm gs n).toList = 0 ∧ fndN r gs (nm gs n).toList = n := by
  obtain ⟨hl, _⟩ := lay_cnt h0 h1
  obtain ⟨k1, k2, _, _, _, k6, _⟩ := lay_of hl
  obtain ⟨a1, a2, a3, a4, a5⟩ := row_lt h0 h1
  have hr : rd 0 (nm gs n).toList = some ((n / gs.sum).toNat, (n % gs.sum).toNat) := by
    unfold nm
    rw [labS_list]
    exact rd_lab _ (by omega) _ (by omega)
  have hE : fndE r gs (nm gs n).toList = 0 := by
    unfold fndE
    rw [hl, if_pos rfl, hr]
    simp only
    rw [if_pos ⟨by omega, by omega⟩]
  refine ⟨hE, ?_⟩
  unfold fndN
  rw [if_pos hE, hr]
  simp only
  rw [show ((n / gs.sum).toNat : Int) = n / gs.sum by omega, show ((n % gs.sum).toNat : Int) = n % gs.sum by omega]
  exact a5.symm
/-- what is found is a seat whose name it is -/
theorem fnd_is {r : Int} {gs : List Int} {s : List UInt8} (h : fndE r gs s = 0) : 0 ≤ fndN r gs s ∧ fndN r gs s < cntS r gs ∧ (nm gs (fndN r gs s)).toList = s := by
  have hN : fndN r gs s = (match rd 0 s with
    | some (a, b) => (a : Int) * gs.sum + b
    | none => 0) := by unfold fndN; rw [if_pos h]
  unfold fndE at h
  split at h
  · rename_i hl
    obtain ⟨k1, k2, _, _, _, k6, k7⟩ := lay_of hl
    split at h
    · rename_i a b hrd
      split at h
      · rename_i hab
        rw [hrd] at hN
        simp only at hN
        have e1 : ((a : Int) * gs.sum + b) / gs.sum = a ∧ ((a : Int) * gs.sum + b) % gs.sum = b := by
          have := Int.ediv_emod_unique (a := (a : Int) * gs.sum + b) (b := gs.sum) (r := b) (q := a) (by omega)
          exact this.2 ⟨by rw [Int.mul_comm]; omega, by omega, hab.2⟩
        have h0 : 0 ≤ (a : Int) * gs.sum := Int.mul_nonneg (by omega) (by omega)
        have h2 : ((a : Int) + 1) * gs.sum ≤ r * gs.sum := Int.mul_le_mul_of_nonneg_right (by omega) (by omega)
        have h3 : ((a : Int) + 1) * gs.sum = a * gs.sum + gs.sum := by rw [Int.add_mul, Int.one_mul]
        rw [hN]
        refine ⟨by omega, by unfold cntS; rw [if_pos hl]; omega, ?_⟩
        unfold nm
        rw [e1.1, e1.2, labS_list]
        exact (rd_is hrd).1.symm
      · omega
    · omega
  · omega
theorem fnd_cases (r : Int) (gs : List Int) (s : List UInt8) : (layOk r gs = false ∧ fndE r gs s = 1 ∧ fndN r gs s = 0) ∨ (layOk r gs = true ∧ fndE r gs s = 0) ∨ (layOk r gs = true ∧ fndE r gs s = 2 ∧ fndN r gs s = 0 ∧ ∀ n, 0 ≤ n → n < cntS r gs → (nm gs n).toList ≠ s) := by
  have hno : fndE r gs s = 2 → ∀ n, 0 ≤ n → n < cntS r gs → (nm gs n).toList ≠ s := by
    intro h n h0 h1 he
    have := (fnd_yes h0 h1).1
    rw [he, h] at this
    omega
  cases hl : layOk r gs with
  | false =>
    have hE : fndE r gs s = 1 := by unfold fndE; rw [hl]; rfl
    exact .inl ⟨rfl, hE, by unfold fndN; rw [if_neg (by omega)]⟩
  | true =>
    have hE : fndE r gs s = 0 ∨ fndE r gs s = 2 := by
      unfold fndE
      rw [hl, if_pos rfl]
      split
      · split
        · exact .inl rfl
        · exact .inr rfl
      · exact .inr rfl
    rcases hE with hE | hE
    · exact .inr (.inl ⟨rfl, hE⟩)
    · exact .inr (.inr ⟨rfl, hE, by unfold fndN; rw [if_neg (by omega)], hno hE⟩)
end Go.Proofs.YtnmmpiddmckghaaDoor.Se
