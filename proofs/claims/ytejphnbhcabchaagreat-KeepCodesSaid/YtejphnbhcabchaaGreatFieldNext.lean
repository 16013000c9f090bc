/-
  The document's reader in memory (Doc); what its next answers, in the words of the codes. Conditions: the reader lies in memory as it was made.
-/
import Derived.Test.YtejphnbhcabchaaGreatFieldRefB
namespace Go.Proofs.YtejphnbhcabchaaGreat.Fld
open Go.RowKit

/-- what stands next: its size, whether it is below 0, how many bytes its code has -/
def nextS : List Int → Option (Nat × Bool × Nat)
  | [] => none
  | c :: r =>
    if c < 16 then (if okD r c.toNat then some (val (r.take c.toNat), false, c.toNat + 1) else none)
    else if 0 < c - 16 ∧ okD r (c - 16).toNat then some (val (r.take (c - 16).toNat), true, (c - 16).toNat + 1) else none
theorem nextS_low (c : Nat) (r : List Int) (h : c < 16) : nextS ((c : Int) :: r) = if okD r c then some (val (r.take c), false, c + 1) else none := by
  rw [nextS, if_pos (by omega), Int.toNat_natCast]
theorem nextS_high (q : Nat) (r : List Int) : nextS (((q : Int) + 16) :: r) = if 0 < q ∧ okD r q then some (val (r.take q), true, q + 1) else none := by
  rw [nextS, if_neg (by omega), show ((q : Int) + 16 - 16).toNat = q by omega]
  by_cases h : 0 < q ∧ okD r q
  · rw [if_pos h, if_pos ⟨by omega, h.2⟩]
  · rw [if_neg h, if_neg (fun h' => h ⟨by omega, h'.2⟩)]
theorem byte_cases (c : Int) (h0 : 0 ≤ c) (h1 : c ≤ 255) : (∃ k : Nat, k < 16 ∧ c = (k : Int)) ∨ ∃ q : Nat, q ≤ 239 ∧ c = (q : Int) + 16 := by
  by_cases h : c < 16
  · exact .inl ⟨c.toNat, by omega, by omega⟩
  · exact .inr ⟨(c - 16).toNat, by omega, by omega⟩

theorem cutNum_next (zs : List Int) (hb : Bytes zs) (v : Nat) (r : List Int) (h : cutNum zs = some (v, r)) : ∃ k, nextS zs = some (v, false, k) ∧ 0 < k ∧ k ≤ zs.length ∧ r = zs.drop k ∧ v < 18446744073709551616 := by
  cases zs with
  | nil => simp [cutNum] at h
  | cons c rr =>
    have hc := hb c (by simp)
    have hrr : Bytes rr := fun d hd => hb d (by simp [hd])
    rw [cutNum] at h
    by_cases hok : okD rr c.toNat
    · rw [if_pos hok] at h
      simp only [Option.some.injEq, Prod.mk.injEq] at h
      obtain ⟨rfl, rfl⟩ := h
      have h8 := hok.1
      have hl := hok.2.1
      refine ⟨c.toNat + 1, ?_, by omega, by rw [List.length_cons]; omega, by rw [List.drop_succ_cons], (digs_cut rr _ hrr hok).2⟩
      rw [nextS, if_pos (by omega), if_pos hok]
    · rw [if_neg hok] at h
      cases h
theorem cutNum_none (zs : List Int) (hb : Bytes zs) (h : cutNum zs = none) : nextS zs = none ∨ ∃ v k, nextS zs = some (v, true, k + 1) := by
  cases zs with
  | nil => exact .inl rfl
  | cons c rr =>
    have hc := hb c (by simp)
    rcases byte_cases c hc.1 hc.2 with ⟨k, hk, rfl⟩ | ⟨q, hq, rfl⟩
    · rw [cutNum, Int.toNat_natCast] at h
      rw [nextS_low k rr hk]
      by_cases hok : okD rr k
      · rw [if_pos hok] at h; cases h
      · rw [if_neg hok]; exact .inl rfl
    · rw [nextS_high]
      by_cases hok : 0 < q ∧ okD rr q
      · rw [if_pos hok]; exact .inr ⟨_, _, rfl⟩
      · rw [if_neg hok]; exact .inl rfl
theorem cutInt_next (zs : List Int) (hb : Bytes zs) (x : Int) (r : List Int) (h : cutInt zs = some (x, r)) : ∃ v k, 0 < k ∧ k ≤ zs.length ∧ r = zs.drop k ∧
    ((nextS zs = some (v, false, k) ∧ v ≤ 9223372036854775807 ∧ x = (v : Int)) ∨ (nextS zs = some (v, true, k) ∧ 0 < v ∧ v ≤ 9223372036854775808 ∧ x = -(v : Int))) := by
  cases zs with
  | nil => simp [cutInt] at h
  | cons c rr =>
    have hc := hb c (by simp)
    have hrr : Bytes rr := fun d hd => hb d (by simp [hd])
    by_cases h8 : c ≤ 8
    · obtain ⟨k, rfl⟩ : ∃ k : Nat, c = (k : Int) := ⟨c.toNat, by omega⟩
      rw [cutInt, if_pos h8, Int.toNat_natCast] at h
      by_cases hok : okD rr k ∧ val (rr.take k) ≤ 9223372036854775807
      · rw [if_pos hok] at h
        simp only [Option.some.injEq, Prod.mk.injEq] at h
        obtain ⟨rfl, rfl⟩ := h
        have hl := hok.1.2.1
        refine ⟨val (rr.take k), k + 1, by omega, by rw [List.length_cons]; omega, by rw [List.drop_succ_cons], .inl ⟨?_, hok.2, rfl⟩⟩
        rw [nextS_low k rr (by omega), if_pos hok.1]
      · rw [if_neg hok] at h; cases h
    · by_cases h16 : c ≤ 16
      · rw [cutInt, if_neg h8, if_neg (fun h' => by omega)] at h
        cases h
      · obtain ⟨q, rfl⟩ : ∃ q : Nat, c = (q : Int) + 16 := ⟨(c - 16).toNat, by omega⟩
        rw [cutInt, if_neg h8, show ((q : Int) + 16 - 16).toNat = q by omega] at h
        by_cases hok : 16 < (q : Int) + 16 ∧ okD rr q ∧ val (rr.take q) ≤ 9223372036854775808
        · rw [if_pos hok] at h
          simp only [Option.some.injEq, Prod.mk.injEq] at h
          obtain ⟨rfl, rfl⟩ := h
          obtain ⟨hq, ho, hv⟩ := hok
          have hl := ho.2.1
          have hd := (digs_cut rr q hrr ho).1
          have hlen : (rr.take q).length = q := by rw [List.length_take]; omega
          have hp : 0 < val (rr.take q) := digs_len_pos _ (by rw [hd, hlen]; omega)
          refine ⟨val (rr.take q), q + 1, by omega, by rw [List.length_cons]; omega, by rw [List.drop_succ_cons], .inr ⟨?_, hp, hv, rfl⟩⟩
          rw [nextS_high, if_pos ⟨by omega, ho⟩]
        · rw [if_neg hok] at h; cases h
theorem cutInt_none (zs : List Int) (hb : Bytes zs) (h : cutInt zs = none) : nextS zs = none ∨ (∃ v k, nextS zs = some (v, false, k + 1) ∧ 9223372036854775807 < v) ∨ (∃ v k, nextS zs = some (v, true, k + 1) ∧ 9223372036854775808 < v) := by
  cases zs with
  | nil => exact .inl rfl
  | cons c rr =>
    have hc := hb c (by simp)
    rcases byte_cases c hc.1 hc.2 with ⟨k, hk, rfl⟩ | ⟨q, hq, rfl⟩
    · rw [nextS_low k rr hk]
      by_cases hok : okD rr k
      · rw [if_pos hok]
        have h8 := hok.1
        rw [cutInt, if_pos (by omega), Int.toNat_natCast] at h
        by_cases hv : val (rr.take k) ≤ 9223372036854775807
        · rw [if_pos ⟨hok, hv⟩] at h; cases h
        · exact .inr (.inl ⟨_, _, rfl, by omega⟩)
      · rw [if_neg hok]; exact .inl rfl
    · rw [nextS_high]
      by_cases hok : 0 < q ∧ okD rr q
      · rw [if_pos hok]
        rw [cutInt, if_neg (by omega), show ((q : Int) + 16 - 16).toNat = q by omega] at h
        by_cases hv : val (rr.take q) ≤ 9223372036854775808
        · rw [if_pos ⟨by omega, hok.2, hv⟩] at h; cases h
        · exact .inr (.inr ⟨_, _, rfl, by omega⟩)
      · rw [if_neg hok]; exact .inl rfl

/-! ### the document's reader -/
def Doc (w : World) (h : Nat) (A : Option Addr) (n cap p : Nat) (zs : List Int) (bad : Bool) : Prop := Three w h A n cap p bad ∧ Rd w A n zs ∧ p ≤ n ∧ n ≤ cap ∧ n ≤ 140737488351232
theorem Doc.at {w : World} {h : Nat} {A : Option Addr} {n cap p : Nat} {zs : List Int} {bad : Bool} (t : Doc w h A n cap p zs bad) (hp : p < n) : ∃ b off, A = some ⟨b, off, none⟩ ∧ (∀ i, i < n → w.cell? ⟨b, off + i, none⟩ = some (.int .u8 (zs.getD i 0))) := by
  obtain ⟨b, off, e, hc⟩ := t.2.1.2.2.2 (by omega)
  exact ⟨b, off, e, hc⟩
theorem drop_cons (zs : List Int) (p : Nat) (h : p < zs.length) : zs.drop p = zs.getD p 0 :: zs.drop (p + 1) := by
  rw [List.drop_eq_getElem_cons h]
  simp [h]
theorem getD_drop (zs : List Int) (p j : Nat) : (zs.drop p).getD j 0 = zs.getD (p + j) 0 := by
  rw [List.getD_eq_getElem?_getD, List.getD_eq_getElem?_getD, List.getElem?_drop]

theorem next_none (h : Nat) (A : Option Addr) (n cap p : Nat) (zs : List Int) (bad : Bool) (w : World) (t : Doc w h A n cap p zs bad) (hn : bad = true ∨ nextS (zs.drop p) = none) :
    Calls Tryz.prog 91 #[.pointer (some ⟨h, 0, none⟩)] w (NextIs w 0 false 0) := by
  cases bad with
  | true => exact next_bad h A n cap p w t.1
  | false =>
    have hns : nextS (zs.drop p) = none := by
      rcases hn with h | h
      · cases h
      · exact h
    clear hn
    by_cases hp : p < n
    · obtain ⟨b, off, rfl, hc⟩ := t.at hp
      obtain ⟨t3, hr, _, _, hm⟩ := t
      have hl := hr.1
      have c0 := hc p hp
      have hby := hr.2.2.1
      have hcb := getD_byte hby p (by omega)
      rw [drop_cons zs p (by omega)] at hns
      have hrl : (zs.drop (p + 1)).length = n - (p + 1) := by rw [List.length_drop]; omega
      have lead : p + 1 < n → (zs.drop (p + 1)).getD 0 0 = 0 → w.cell? ⟨b, off + (p + 1), none⟩ = some (.int .u8 0) := by
        intro h1 h2
        rw [hc (p + 1) h1]
        rw [getD_drop, Nat.add_zero] at h2
        rw [h2]
      generalize zs.getD p 0 = c at *
      generalize zs.drop (p + 1) = r at *
      rcases byte_cases c hcb.1 hcb.2 with ⟨k, hk, rfl⟩ | ⟨q, hq, rfl⟩
      · rw [nextS_low k r hk] at hns
        by_cases hok : okD r k
        · rw [if_pos hok] at hns; cases hns
        · by_cases h8 : 8 < k
          · exact next_pos_big h b off n cap p k w t3 hp c0 hk h8
          · by_cases hs : n < p + 1 + k
            · exact next_pos_short h b off n cap p k w t3 hp hm c0 hk (by omega) hs
            · have hk0 : 0 < k := by
                rcases Nat.eq_zero_or_pos k with h0 | h0
                · exact absurd ⟨by omega, by omega, .inl h0⟩ hok
                · exact h0
              have hz : r.getD 0 0 = 0 := by
                by_cases h0 : r.getD 0 0 = 0
                · exact h0
                · exact absurd ⟨by omega, by omega, .inr h0⟩ hok
              exact next_pos_lead h b off n cap p k w t3 hp hm c0 (by omega) (by omega) hk0 (lead (by omega) hz)
      · rw [nextS_high] at hns
        by_cases hq0 : q = 0
        · exact next_neg_zero h b off n cap p q w t3 hp hm c0 hq0
        · by_cases hok : okD r q
          · rw [if_pos ⟨by omega, hok⟩] at hns; cases hns
          · by_cases h8 : 8 < q
            · exact next_neg_big h b off n cap p q w t3 hp c0 hq h8
            · by_cases hs : n < p + 1 + q
              · exact next_neg_short h b off n cap p q w t3 hp hm c0 hq (by omega) hs
              · have hz : r.getD 0 0 = 0 := by
                  by_cases h0 : r.getD 0 0 = 0
                  · exact h0
                  · exact absurd ⟨by omega, by omega, .inr h0⟩ hok
                exact next_neg_lead h b off n cap p q w t3 hp hm c0 (by omega) (by omega) (by omega) (lead (by omega) hz)
    · exact next_end h A n cap p w t.1 (by omega)

theorem next_some (h : Nat) (A : Option Addr) (n cap p : Nat) (zs : List Int) (w : World) (t : Doc w h A n cap p zs false) (v : Nat) (neg : Bool) (kk : Nat) (hns : nextS (zs.drop p) = some (v, neg, kk)) :
    Calls Tryz.prog 91 #[.pointer (some ⟨h, 0, none⟩)] w (NextIs w (v : Int) neg (kk : Int)) := by
  have hl := t.2.1.1
  by_cases hp : p < n
  · obtain ⟨b, off, rfl, hc⟩ := t.at hp
    obtain ⟨t3, hr, _, _, hm⟩ := t
    have c0 := hc p hp
    have hby := hr.2.2.1
    have hcb := getD_byte hby p (by omega)
    rw [drop_cons zs p (by omega)] at hns
    have hrl : (zs.drop (p + 1)).length = n - (p + 1) := by rw [List.length_drop]; omega
    have hrb : Bytes (zs.drop (p + 1)) := bytes_drop hby _
    have cells : ∀ c, p + 1 + c ≤ n → ∀ j, j < c → w.cell? ⟨b, off + (p + 1 + j), none⟩ = some (.int .u8 ((zs.drop (p + 1)).getD j 0)) := by
      intro c h1 j hj
      rw [hc (p + 1 + j) (by omega), getD_drop]
    generalize zs.getD p 0 = c at *
    generalize zs.drop (p + 1) = r at *
    rcases byte_cases c hcb.1 hcb.2 with ⟨k, hk, rfl⟩ | ⟨q, hq, rfl⟩
    · rw [nextS_low k r hk] at hns
      by_cases hok : okD r k
      · rw [if_pos hok] at hns
        simp only [Option.some.injEq, Prod.mk.injEq] at hns
        obtain ⟨rfl, rfl, rfl⟩ := hns
        obtain ⟨h8, hkl, hz⟩ := hok
        rw [show ((k + 1 : Nat) : Int) = (k : Int) + 1 by omega]
        by_cases hk0 : k = 0
        · exact next_pos_zero h b off n cap p k r w t3 hp hm c0 h8 (by omega) hrl hrb (cells k (by omega)) hk0
        · have c1 := cells 1 (by omega) 0 (by omega)
          rw [Nat.add_zero] at c1
          refine next_pos_ok h b off n cap p k r w t3 hp hm c0 h8 (by omega) hrl hrb (cells k (by omega)) (by omega) _ c1 ?_
          rcases hz with hz | hz
          · exact absurd hz hk0
          · simpa using hz
      · rw [if_neg hok] at hns; cases hns
    · rw [nextS_high] at hns
      by_cases hok : 0 < q ∧ okD r q
      · rw [if_pos hok] at hns
        simp only [Option.some.injEq, Prod.mk.injEq] at hns
        obtain ⟨rfl, rfl, rfl⟩ := hns
        obtain ⟨hq0, h8, hkl, hz⟩ := hok
        rw [show ((q + 1 : Nat) : Int) = (q : Int) + 1 by omega]
        have c1 := cells 1 (by omega) 0 (by omega)
        rw [Nat.add_zero] at c1
        refine next_neg_ok h b off n cap p q r w t3 hp hm c0 h8 (by omega) hrl hrb (cells q (by omega)) (by omega) _ c1 ?_
        rcases hz with hz | hz
        · omega
        · simpa using hz
      · rw [if_neg hok] at hns; cases hns
  · rw [List.drop_of_length_le (by omega)] at hns
    cases hns
end Go.Proofs.YtejphnbhcabchaaGreat.Fld
