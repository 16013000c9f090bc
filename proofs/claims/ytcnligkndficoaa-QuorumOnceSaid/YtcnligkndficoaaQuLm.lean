/-
  Layer 9, the mathematics of the laws: what is added and removed; most of before and most of behind meet. No condition.
-/
import Derived.Test.YtcnligkndficoaaQuF0
namespace Go.Proofs.Ytcnligkndficoaa.Qu
set_option linter.unusedVariables false

theorem ok_insL {vs ls : List Int} {x : Int} (h : grpOk vs ls = true) (h1 : 1 ≤ x) (h2 : x ≤ 15) (hv : x ∉ vs) (hl : x ∉ ls) : grpOk vs (insN ls x) = true := by
  obtain ⟨a, b, c, d⟩ := (grpOk_iff vs ls).1 h
  refine (grpOk_iff _ _).2 ⟨a, b, insN_up ls x c (by omega) h2 hl, fun y hy hm => ?_⟩
  rcases (mem_insN ls x y).1 hm with rfl | hm
  · exact hv hy
  · exact d y hy hm
theorem ok_insV {vs ls : List Int} {x : Int} (h : grpOk vs ls = true) (h1 : 1 ≤ x) (h2 : x ≤ 15) (hv : x ∉ vs) (hl : x ∉ ls) : grpOk (insN vs x) ls = true := by
  obtain ⟨a, b, c, d⟩ := (grpOk_iff vs ls).1 h
  refine (grpOk_iff _ _).2 ⟨fun he => ?_, insN_up vs x b (by omega) h2 hv, c, fun y hy hm => ?_⟩
  · have := congrArg List.length he
    rw [insN_len] at this
    simp at this
  · rcases (mem_insN vs x y).1 hy with rfl | hy
    · exact hl hm
    · exact d y hy hm
theorem ok_rem {vs ls : List Int} {x : Int} (h : grpOk vs ls = true) (hne : remN vs x ≠ []) : grpOk (remN vs x) (remN ls x) = true := by
  obtain ⟨a, b, c, d⟩ := (grpOk_iff vs ls).1 h
  exact (grpOk_iff _ _).2 ⟨hne, remN_up vs x b, remN_up ls x c, fun y hy hm => d y ((mem_remN _ _ _).1 hy).1 ((mem_remN _ _ _).1 hm).1⟩
/-- which errors there are, and when there is none -/
theorem chG_code {vs ls us ks : List Int} {kind x er : Int} (h : chG vs ls kind x = (us, ks, er)) : er = 0 ∨ er = 1 ∨ er = 7 := by
  unfold chG at h
  have key : ∀ (c : Prop) [Decidable c] (a b : List Int × List Int × Int), (if c then a else b) = (us, ks, er) → a = (us, ks, er) ∨ b = (us, ks, er) := by
    intro c _ a b h
    by_cases hc : c
    · rw [if_pos hc] at h; exact .inl h
    · rw [if_neg hc] at h; exact .inr h
  rcases key _ _ _ h with h | h
  · rcases key _ _ _ h with h | h
    · rcases key _ _ _ h with h | h
      · right; right; exact (congrArg (fun t => t.2.2) h).symm
      · left; exact (congrArg (fun t => t.2.2) h).symm
    · rcases key _ _ _ h with h | h
      · rcases key _ _ _ h with h | h
        · left; exact (congrArg (fun t => t.2.2) h).symm
        · right; right; exact (congrArg (fun t => t.2.2) h).symm
      · rcases key _ _ _ h with h | h
        · right; right; exact (congrArg (fun t => t.2.2) h).symm
        · left; exact (congrArg (fun t => t.2.2) h).symm
  · right; left; exact (congrArg (fun t => t.2.2) h).symm
theorem chG_made {vs ls us ks : List Int} {kind x : Int} (h : chG vs ls kind x = (us, ks, 0)) : grpOk vs ls = true ∧ 1 ≤ x ∧ x ≤ 15 ∧
    ((kind = 1 ∧ x ∉ vs ∧ x ∉ ls ∧ us = vs ∧ ks = insN ls x) ∨ (kind = 2 ∧ x ∉ vs ∧ x ∈ ls ∧ us = insN vs x ∧ ks = remN ls x) ∨ (kind = 3 ∧ us = remN vs x ∧ ks = remN ls x ∧ (x ∈ vs → vs.length ≠ 1))) := by
  by_cases hb : grpOk vs ls = true ∧ 1 ≤ kind ∧ kind ≤ 3 ∧ 1 ≤ x ∧ x ≤ 15
  · obtain ⟨hg, k1, k2, x1, x2⟩ := hb
    refine ⟨hg, x1, x2, ?_⟩
    have hd := ((grpOk_iff vs ls).1 hg).2.2.2
    have hk : kind = 1 ∨ kind = 2 ∨ kind = 3 := by omega
    rcases hk with rfl | rfl | rfl
    · rw [chG_1 hg x1 x2] at h
      by_cases hc : (hasI vs x || hasI ls x) = true
      · rw [if_pos hc] at h
        have := congrArg (fun t => t.2.2) h
        simp at this
      · rw [if_neg hc] at h
        simp only [Bool.or_eq_true, not_or, Bool.not_eq_true] at hc
        have e1 := congrArg (fun t => t.1) h
        have e2 := congrArg (fun t => t.2.1) h
        simp only at e1 e2
        have hv := (has_not _ _).1 hc.1
        exact .inl ⟨rfl, hv, (has_not _ _).1 hc.2, by rw [← e1, remN_none _ _ hv], e2.symm⟩
    · rw [chG_2 hg x1 x2] at h
      by_cases hc : hasI ls x = true
      · rw [if_pos hc] at h
        have e1 := congrArg (fun t => t.1) h
        have e2 := congrArg (fun t => t.2.1) h
        simp only at e1 e2
        have hl := (has_iff _ _).1 hc
        exact .inr (.inl ⟨rfl, fun hv => hd x hv hl, hl, e1.symm, e2.symm⟩)
      · rw [if_neg hc] at h
        have := congrArg (fun t => t.2.2) h
        simp at this
    · rw [chG_3 hg x1 x2] at h
      by_cases hc : (!hasI vs x && !hasI ls x || hasI vs x && decide (vs.length = 1)) = true
      · rw [if_pos hc] at h
        have := congrArg (fun t => t.2.2) h
        simp at this
      · rw [if_neg hc] at h
        have e1 := congrArg (fun t => t.1) h
        have e2 := congrArg (fun t => t.2.1) h
        simp only at e1 e2
        refine .inr (.inr ⟨rfl, e1.symm, e2.symm, fun hv hlen => hc ?_⟩)
        rw [(has_iff _ _).2 hv]
        simp [hlen]
  · rw [chG_bad hb] at h
    have := congrArg (fun t => t.2.2) h
    simp at this
theorem made_ok {vs ls us ks : List Int} {kind x : Int} (h : chG vs ls kind x = (us, ks, 0)) : grpOk us ks = true := by
  obtain ⟨hg, x1, x2, hc⟩ := chG_made h
  obtain ⟨a, b, c, d⟩ := (grpOk_iff vs ls).1 hg
  rcases hc with ⟨_, hv, hl, rfl, rfl⟩ | ⟨_, hv, hl, rfl, rfl⟩ | ⟨_, rfl, rfl, hn⟩
  · exact ok_insL hg x1 x2 hv hl
  · have e : grpOk vs (remN ls x) = true := (grpOk_iff _ _).2 ⟨a, b, remN_up ls x c, fun y hy hm => d y hy ((mem_remN _ _ _).1 hm).1⟩
    exact ok_insV e x1 x2 hv (fun hm => ((mem_remN _ _ _).1 hm).2 rfl)
  · refine ok_rem hg (fun he => ?_)
    by_cases hv : x ∈ vs
    · have := remN_length vs x ((upN_iff vs 0).1 b).2 hv
      rw [he] at this
      simp at this
      exact hn hv this.symm
    · rw [remN_none _ _ hv] at he
      exact a he
theorem meets_math {vs ls us ks : List Int} {kind x : Int} (h : chG vs ls kind x = (us, ks, 0)) (p q : Int → Bool) (hp : vs.length / 2 + 1 ≤ vs.countP p) (hq : us.length / 2 + 1 ≤ us.countP q) : ∃ v ∈ vs, p v = true ∧ q v = true ∧ v ∈ us := by
  obtain ⟨hg, x1, x2, hc⟩ := chG_made h
  obtain ⟨a, b, c, d⟩ := (grpOk_iff vs ls).1 hg
  have hpw := ((upN_iff vs 0).1 b).2
  rcases hc with ⟨_, hv, hl, rfl, rfl⟩ | ⟨_, hv, hl, rfl, rfl⟩ | ⟨_, rfl, rfl, hn⟩
  · obtain ⟨v, hm, h1, h2⟩ := meet us p q (by omega)
    exact ⟨v, hm, h1, h2, hm⟩
  · rw [insN_count, insN_len] at hq
    obtain ⟨v, hm, h1, h2⟩ := meet vs p q (by split at hq <;> omega)
    exact ⟨v, hm, h1, h2, (mem_insN _ _ _).2 (.inr hm)⟩
  · have hcp := remN_count vs x p hpw
    have hlen : vs.length ≤ (remN vs x).length + 1 := by
      by_cases hv : x ∈ vs
      · have := remN_length vs x hpw hv; omega
      · rw [remN_none _ _ hv]; omega
    by_cases hv : x ∈ vs
    · have hl2 := remN_length vs x hpw hv
      obtain ⟨v, hm, h1, h2⟩ := meet (remN vs x) p q (by omega)
      exact ⟨v, ((mem_remN _ _ _).1 hm).1, h1, h2, hm⟩
    · rw [remN_none _ _ hv] at hq ⊢
      obtain ⟨v, hm, h1, h2⟩ := meet vs p q (by omega)
      exact ⟨v, hm, h1, h2, hm⟩
theorem undo_math {vs ls v1 l1 : List Int} {x : Int} (h : chG vs ls 1 x = (v1, l1, 0)) : v1 = vs ∧ chG vs l1 3 x = (vs, ls, 0) ∧ chG vs l1 2 x = (insN vs x, ls, 0) ∧ chG (insN vs x) ls 3 x = (vs, ls, 0) := by
  obtain ⟨hg, x1, x2, hc⟩ := chG_made h
  rcases hc with ⟨_, hv, hl, rfl, rfl⟩ | ⟨hk, _⟩ | ⟨hk, _⟩
  · have g1 := ok_insL hg x1 x2 hv hl
    have g2 := ok_insV hg x1 x2 hv hl
    have m1 : hasI (insN ls x) x = true := (has_iff _ _).2 ((mem_insN _ _ _).2 (.inl rfl))
    have m2 : hasI (insN v1 x) x = true := (has_iff _ _).2 ((mem_insN _ _ _).2 (.inl rfl))
    have m3 := (has_not _ _).2 hv
    have m4 := (has_not _ _).2 hl
    refine ⟨rfl, ?_, ?_, ?_⟩
    · rw [chG_3 g1 x1 x2, m1, m3, remN_none _ _ hv, remN_insN _ _ hl]
      rfl
    · rw [chG_2 g1 x1 x2, m1, remN_insN _ _ hl]
      rfl
    · rw [chG_3 g2 x1 x2, m2, m4, remN_insN _ _ hv, remN_none _ _ hl, insN_len]
      have hne : v1 ≠ [] := ((grpOk_iff _ _).1 hg).1
      have : v1.length ≠ 0 := fun h0 => hne (List.eq_nil_of_length_eq_zero h0)
      simp [this]
  · omega
  · omega
end Go.Proofs.Ytcnligkndficoaa.Qu
