/-
  Layer 8: what was merged is there, and merged again changes nothing. Conditions: the log is as a log should be.
-/
import Derived.Test.YtimplhdliaggfaaRlgMath
namespace Go.Proofs.Ytimplhdliaggfaa.Rg
open Go.Proofs.Ytimplhdliaggfaa.Fld
set_option linter.unusedVariables false

theorem mis_all (s : St) : ∀ (l : List En), (∀ x ∈ l, hasB s x.idx x.term = true) → mis s l = []
  | [], _ => rfl
  | e :: r, h => by
    simp only [mis]
    rw [if_pos (h e (by simp))]
    exact mis_all s r (fun x hx => h x (by simp [hx]))
theorem mis_nil (s : St) : ∀ (l : List En), mis s l = [] → ∀ x ∈ l, hasB s x.idx x.term = true
  | [], _, x, hx => by simp at hx
  | e :: r, h, x, hx => by
    simp only [mis] at h
    split at h
    · next he =>
      rcases List.mem_cons.1 hx with rfl | hx
      · exact he
      · exact mis_nil s r h x hx
    · cases h
theorem skp_mem (b : Int) : ∀ (l : List En) (x : En), x ∈ l → b < x.idx → x ∈ skp b l
  | [], x, hx, _ => by simp at hx
  | e :: r, x, hx, hb => by
    simp only [skp]
    split
    · next he =>
      rcases List.mem_cons.1 hx with rfl | hx
      · omega
      · exact skp_mem b r x hx hb
    · exact hx
theorem entT_take (s : St) (n : Nat) (m : List En) (hn : n ≤ s.es.length) (p : Nat) (hp : p ≤ n) : entT { s with es := s.es.take n ++ m } p = entT s p := by
  unfold entT
  split
  · rfl
  · next h0 =>
    simp only
    rw [List.getD_eq_getElem?_getD, List.getD_eq_getElem?_getD, List.getElem?_append_left (by rw [List.length_take]; omega), List.getElem?_take, if_pos (by omega)]
theorem entT_new (s : St) (n : Nat) (m : List En) (hn : n ≤ s.es.length) (q : Nat) : entT { s with es := s.es.take n ++ m } (n + 1 + q) = (m.getD q en0).term := by
  unfold entT
  rw [if_neg (by omega)]
  simp only
  rw [List.getD_eq_getElem?_getD, List.getD_eq_getElem?_getD, List.getElem?_append_right (by rw [List.length_take]; omega), List.length_take, Nat.min_eq_left hn, show n + 1 + q - 1 - n = q by omega]
theorem repl_has {s : St} {l : List En} {i t : Int} (hf : fol l i t = true) (hh : hasB s i t = true) {e : En} {r : List En} (hm : mis s l = e :: r) :
    hasB (repl s e r) i t = true ∧ ∀ x ∈ l, hasB (repl s e r) x.idx x.term = true := by
  obtain ⟨k, k1, k2, k3, k4, k5⟩ := mis_drop s l i t hf hh
  rw [hm] at k2
  have hk : k < l.length := by
    rcases Nat.lt_or_ge k l.length with h | h
    · exact h
    · rw [List.drop_eq_nil_of_le h] at k2; cases k2
  have he : l.getD k en0 = e := by
    rw [List.drop_eq_getElem_cons hk] at k2
    injection k2 with k2 _
    rw [List.getD_eq_getElem?_getD, List.getElem?_eq_getElem hk]
    exact k2.symm
  have hei := (fol_at hf k hk).1
  rw [he] at hei
  obtain ⟨g1, g2, g3⟩ := (hasB_iff _ _ _).1 k5
  obtain ⟨f1, f2, f3⟩ := (hasB_iff _ _ _).1 hh
  obtain ⟨n, hn⟩ : ∃ n : Nat, i + (k : Int) = s.base + n := ⟨(i + k - s.base).toNat, by omega⟩
  have hnl : n ≤ s.es.length := by unfold St.last at g2; omega
  have hlen : (e :: r).length = l.length - k := by rw [k2, List.length_drop]
  have hrp : repl s e r = { s with es := s.es.take n ++ (e :: r) } := by
    unfold repl
    rw [show (e.idx - 1 - s.base).toNat = n by omega]
  have hlast : (repl s e r).last = s.base + n + (l.length - k : Nat) := by
    rw [hrp]
    simp only [St.last]
    rw [List.length_append, List.length_take, Nat.min_eq_left hnl, hlen]
    omega
  have hold : ∀ (j : Int) (u : Int), j ≤ s.base + n → hasB s j u = true → hasB (repl s e r) j u = true := by
    intro j u hj hb
    obtain ⟨c1, c2, c3⟩ := (hasB_iff _ _ _).1 hb
    refine (hasB_iff _ _ _).2 ⟨by rw [hrp]; exact c1, by rw [hlast]; omega, ?_⟩
    rw [hrp]
    show entT _ (j - s.base).toNat = u
    rw [entT_take s n (e :: r) hnl _ (by omega)]
    exact c3
  refine ⟨hold i t (by omega) hh, fun x hx => ?_⟩
  obtain ⟨j, hj, hxj⟩ := List.getElem_of_mem hx
  have hx2 : l.getD j en0 = x := by rw [List.getD_eq_getElem?_getD, List.getElem?_eq_getElem hj]; exact hxj
  have hxi := (fol_at hf j hj).1
  rw [hx2] at hxi
  by_cases hjk : j < k
  · have := k3 j hjk
    rw [hx2] at this
    exact hold _ _ (by omega) this
  · refine (hasB_iff _ _ _).2 ⟨by rw [hrp]; show s.base ≤ _; omega, by rw [hlast]; omega, ?_⟩
    rw [hrp]
    show entT _ (x.idx - s.base).toNat = x.term
    rw [show (x.idx - s.base).toNat = n + 1 + (j - k) by omega, entT_new s n (e :: r) hnl]
    rw [k2, List.getD_eq_getElem?_getD, List.getElem?_drop, show k + (j - k) = j by omega, ← List.getD_eq_getElem?_getD, hx2]
theorem mrgA_again {s : St} {l : List En} {i t : Int} (hf : fol l i t = true) (h0 : (mrgA s i t l).2.1 = 0) :
    (∀ x ∈ l, hasB (mrgA s i t l).2.2 x.idx x.term = true) ∧ mrgA (mrgA s i t l).2.2 i t l = (0, 0, (mrgA s i t l).2.2) ∧ (mrgA s i t l).2.2.base = s.base ∧ (mrgA s i t l).2.2.bt = s.bt := by
  by_cases hh : hasB s i t = true
  · have e0 : mrgA s i t l = mrgL s (mis s l) := by unfold mrgA; rw [if_pos hh]
    rw [e0] at h0 ⊢
    cases hm : mis s l with
    | nil =>
      simp only [mrgL]
      refine ⟨mis_nil s l hm, ?_, by first | trivial | rfl, by first | trivial | rfl⟩
      unfold mrgA
      rw [if_pos hh, hm]
      rfl
    | cons e r =>
      rw [hm] at h0
      simp only [mrgL] at h0 ⊢
      by_cases hc : e.idx ≤ s.com
      · rw [if_pos hc] at h0
        cases h0
      · rw [if_neg hc]
        simp only
        obtain ⟨g1, g2⟩ := repl_has hf hh hm
        refine ⟨g2, ?_, by first | trivial | rfl, by first | trivial | rfl⟩
        unfold mrgA
        rw [if_pos g1, mis_all _ l g2]
        rfl
  · unfold mrgA at h0
    rw [if_neg hh] at h0
    cases h0
/-- what was merged is there, and merged again changes nothing -/
theorem mrg_again {s : St} {l : List En} {i t : Int} (h0 : (mrg s i t l).2.1 = 0) :
    (∀ x ∈ l, (mrg s i t l).2.2.base + 1 ≤ x.idx → hasB (mrg s i t l).2.2 x.idx x.term = true) ∧ mrg (mrg s i t l).2.2 i t l = (0, 0, (mrg s i t l).2.2) := by
  by_cases hc : okL l = true ∧ fol l i t = true
  · by_cases hi : i < s.base
    · have e0 : mrg s i t l = mrgB s (skp s.base l) := by unfold mrg; rw [if_pos hc, if_pos hi]
      rw [e0] at h0 ⊢
      cases hs : skp s.base l with
      | nil =>
        simp only [mrgB]
        refine ⟨fun x hx hb => ?_, ?_⟩
        · have := skp_mem s.base l x hx (by omega)
          rw [hs] at this
          cases this
        · unfold mrg
          rw [if_pos hc, if_pos hi, hs]
          rfl
      | cons e r =>
        rw [hs] at h0
        simp only [mrgB] at h0 ⊢
        by_cases ht : e.term < s.bt
        · rw [if_pos ht] at h0
          cases h0
        · rw [if_neg ht] at h0
          rw [if_neg ht]
          obtain ⟨g1, g2, g3, g4⟩ := mrgA_again (skp_fol hc.2 hi hs ht) h0
          refine ⟨fun x hx hb => g1 x (by rw [← hs]; exact skp_mem s.base l x hx (by rw [g3] at hb; omega)), ?_⟩
          generalize (mrgA s s.base s.bt (e :: r)).2.2 = s' at *
          unfold mrg
          rw [if_pos hc, g3, if_pos hi, hs]
          simp only [mrgB]
          rw [g4, if_neg ht, g3]
          exact g2
    · have e0 : mrg s i t l = mrgA s i t l := by unfold mrg; rw [if_pos hc, if_neg hi]
      rw [e0] at h0 ⊢
      obtain ⟨g1, g2, g3, g4⟩ := mrgA_again hc.2 h0
      refine ⟨fun x hx _ => g1 x hx, ?_⟩
      generalize (mrgA s i t l).2.2 = s' at *
      unfold mrg
      rw [if_pos hc, g3, if_neg hi]
      exact g2
  · unfold mrg at h0
    rw [if_neg hc] at h0
    cases h0
theorem mrgA_code (s : St) (i t : Int) (l : List En) : (mrgA s i t l).2.1 = 0 ∨ (mrgA s i t l).2.1 = 7 ∨ (mrgA s i t l).2.1 = 9 := by
  unfold mrgA
  split
  · cases mis s l with
    | nil => exact .inl rfl
    | cons e r =>
      simp only [mrgL]
      split
      · exact .inr (.inr rfl)
      · exact .inl rfl
  · exact .inr (.inl rfl)
theorem mrg_code (s : St) (i t : Int) (l : List En) : (mrg s i t l).2.1 = 0 ∨ (mrg s i t l).2.1 = 1 ∨ (mrg s i t l).2.1 = 7 ∨ (mrg s i t l).2.1 = 9 := by
  unfold mrg
  split
  · split
    · cases skp s.base l with
      | nil => exact .inl rfl
      | cons e r =>
        simp only [mrgB]
        split
        · exact .inr (.inr (.inl rfl))
        · rcases mrgA_code s s.base s.bt (e :: r) with h | h | h <;> simp [h]
    · rcases mrgA_code s i t l with h | h | h <;> simp [h]
  · exact .inr (.inl rfl)
end Go.Proofs.Ytimplhdliaggfaa.Rg
