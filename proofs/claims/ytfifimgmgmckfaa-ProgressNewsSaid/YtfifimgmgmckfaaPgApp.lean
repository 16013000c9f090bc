/-
  Layer 11: one index more in flight: append onto the row, full or with room, as a step of a region. Conditions: the row is the peer's (Fly).
-/
import Derived.Test.YtfifimgmgmckfaaPgMem
import Derived.Deep.RegionLaw
import Derived.Deep.RegionLawGrows
import Derived.Deep.AppendLies
namespace Go.Proofs.Ytfifimgmgmckfaa.Pg
open Go.RowKit Go.Proofs.Ytfifimgmgmckfaa.Qu Go.Proofs.Ytfifimgmgmckfaa.Fld
set_option linter.unusedVariables false

theorem row_mono {lo lo' : Nat} {w : World} {v : Value} {n : Nat} {xs : List Value} (h : w.ownsRow lo 3 1 v n xs) (hl : lo' ≤ lo) : w.ownsRow lo' 3 1 v n xs := by
  obtain ⟨h1, h2⟩ := h
  refine ⟨h1, ?_⟩
  rcases h2 with h2 | ⟨b, cap, cur, e, hb, hr⟩
  · exact .inl h2
  · exact .inr ⟨b, cap, cur, e, Nat.le_trans hl hb, hr⟩
theorem row_base {lo : Nat} {w : World} {v : Value} {n : Nat} {xs : List Value} (h : w.ownsRow lo 3 1 v n xs) : ∀ b, v.ownBlock = some b → lo ≤ b := by
  intro b hb
  rcases h.2 with ⟨rfl, _⟩ | ⟨g', c', cur, rfl, hg, _⟩
  · simp [Value.ownBlock] at hb
  · simp [Value.ownBlock] at hb; omega
set_option maxRecDepth 100000 in
theorem step_append_fly {ops : Array Oper} {o : Oper} {a : Act} {w : World} {K : Act → World → Prop} {Q : Exit → Act → World → Prop} {E : Prop} (hgd : o.guard = none) (s x : Operand)
    (ho : o.op = Op.call { callee := Callee.builtin Builtin.append, args := #[s, x], argTypes := #[38, 38] })
    (lo g : Nat) (A : Option Addr) (cap : Nat) (l : List Int) (hs : a.eval s = .slice A l.length cap) (hf : Fly lo g w A cap l) (hl : l.length ≤ 1000) (n : Int) (ad : Addr) (hx : a.eval x = .slice (some ad) 1 1) (hc : w.cell? ad = some (.int .i64 n)) (hlo : lo ≤ w.heap.size) (hg : g < w.heap.size)
    (hK : ∀ A' cap' w', Fly lo g w' A' cap' (l ++ [n]) → Below lo w w' → w'.heap[g]? = w.heap[g]? → K (a.put o.dst (.slice A' (l ++ [n]).length cap')) w') :
    if Region.wanted o (yielded ops a.tmps) = true then Oper.wp Try.prog o a w K Q else E := by
  obtain ⟨i, hi, hz, hsz, hby⟩ := int_info
  have hnews : ∀ j u, [Value.int .i64 n][j]? = some u → w.cell? (ad.add j) = some u := by
    intro j u hu
    rcases j with _ | j
    · simp at hu; subst hu; rw [← hc]; congr 1
    · simp at hu
  have hone : ∀ u ∈ [Value.int .i64 n], u.oneCell' = true := by intro u hu; simp at hu; subst hu; rfl
  have hlen : (l ++ [n]).length = l.length + 1 := by simp
  rcases hf.own with hfull | hrow
  · refine step_append_grows hgd s x 38 ho 3 i _ 1 8 Try.underlying38 hi hz hsz hby rfl (by omega) A l.length cap (vI l) hs (fun h => ⟨?_, hf.nil h⟩) (by rw [vI_len]; omega) ?_ ad 1 1 [.int .i64 n] hx rfl hnews hone (by omega) (by unfold maxLen; omega) (by omega) ?_
    · have := hf.nil h; omega
    · intro b hb j u hu
      have hj : j < l.length := by
        rcases Nat.lt_or_ge j l.length with hj | hj
        · exact hj
        · rw [List.getElem?_eq_none (by rw [vI_len]; exact hj)] at hu; cases hu
      rw [vI_at l j hj] at hu
      obtain ⟨b', off, he, hcell⟩ := hf.rd.2.2 (by omega)
      rw [hb] at he
      obtain rfl := Option.some.inj he
      have := hcell j (by omega)
      rw [← hu, ← this]
      congr 1
      unfold Addr.add
      split <;> simp_all
    · intro v' w' hown hgr
      have hb := row_base hown
      rw [← hlen, show vI l ++ [Value.int .i64 n] = vI (l ++ [n]) from (vI_snoc l n).symm] at hown
      obtain ⟨A', cap', rfl, hfly⟩ := Fly.of_row (g := g) (row_mono hown hlo) (fun b hb' => by have := hb b hb'; omega) (by omega)
      exact hK A' cap' w' hfly ((Below.refl lo w).grown hgr hlo (fun k hk => by cases hk)) (hgr.block _ hg (by intro he; cases he))
  · refine step_append_lies w hgd s x 38 ho lo 3 i _ 1 8 Try.underlying38 hi hz hsz hby rfl (by omega) _ _ _ hs hrow ad 1 1 [.int .i64 n] hx rfl hnews hone (by omega) (by unfold maxLen; omega) (by omega) hlo _ rfl ?_
    intro b cap' w' hown hgr hat hlt
    have hb := row_base hrow
    have hbg : ∀ k, (Value.slice A l.length cap).ownBlock = some k → k ≠ g := by
      intro k hk
      cases A with
      | none => simp [Value.ownBlock] at hk
      | some a0 => simp [Value.ownBlock] at hk; subst hk; exact (hf.pl a0 rfl).2.2
    rw [← hlen, show vI l ++ [Value.int .i64 n] = vI (l ++ [n]) from (vI_snoc l n).symm] at hown
    obtain ⟨A', cap2, he, hfly⟩ := Fly.of_row (g := g) hown (fun k hk => by
      simp [Value.ownBlock] at hk
      subst hk
      rcases hat with h1 | h1
      · exact hbg _ h1
      · omega) (by omega)
    injection he with e1 e2 e3
    subst e1 e3
    rw [← hlen]
    exact hK _ _ w' hfly ((Below.refl lo w).grown hgr hlo hb) (hgr.block _ hg (fun he => hbg g he.symm rfl))
set_option maxRecDepth 100000 in
theorem wpList_append_fly {ops : Array Oper} {rest : List Oper} {o : Oper} {a : Act} {w : World} {Q : Exit → Act → World → Prop} (hgd : o.guard = none) (s x : Operand)
    (ho : o.op = Op.call { callee := Callee.builtin Builtin.append, args := #[s, x], argTypes := #[38, 38] })
    (lo g : Nat) (A : Option Addr) (cap : Nat) (l : List Int) (hs : a.eval s = .slice A l.length cap) (hf : Fly lo g w A cap l) (hl : l.length ≤ 1000) (n : Int) (ad : Addr) (hx : a.eval x = .slice (some ad) 1 1) (hc : w.cell? ad = some (.int .i64 n)) (hlo : lo ≤ w.heap.size) (hg : g < w.heap.size)
    (hK : ∀ A' cap' w', Fly lo g w' A' cap' (l ++ [n]) → Below lo w w' → w'.heap[g]? = w.heap[g]? → wpList Try.prog ops Q rest (a.put o.dst (.slice A' (l ++ [n]).length cap')) w') :
    wpList Try.prog ops Q (o :: rest) a w := by
  obtain ⟨i, hi, hz, hsz, hby⟩ := int_info
  have hnews : ∀ j u, [Value.int .i64 n][j]? = some u → w.cell? (ad.add j) = some u := by
    intro j u hu
    rcases j with _ | j
    · simp at hu; subst hu; rw [← hc]; congr 1
    · simp at hu
  have hone : ∀ u ∈ [Value.int .i64 n], u.oneCell' = true := by intro u hu; simp at hu; subst hu; rfl
  have hlen : (l ++ [n]).length = l.length + 1 := by simp
  rcases hf.own with hfull | hrow
  · refine wpList_append_grows w hgd s x 38 ho 3 i _ 1 8 Try.underlying38 hi hz hsz hby rfl (by omega) A l.length cap (vI l) hs (fun h => ⟨?_, hf.nil h⟩) (by rw [vI_len]; omega) ?_ ad 1 1 [.int .i64 n] hx rfl hnews hone (by omega) (by unfold maxLen; omega) (by omega) ?_
    · have := hf.nil h; omega
    · intro b hb j u hu
      have hj : j < l.length := by
        rcases Nat.lt_or_ge j l.length with hj | hj
        · exact hj
        · rw [List.getElem?_eq_none (by rw [vI_len]; exact hj)] at hu; cases hu
      rw [vI_at l j hj] at hu
      obtain ⟨b', off, he, hcell⟩ := hf.rd.2.2 (by omega)
      rw [hb] at he
      obtain rfl := Option.some.inj he
      have := hcell j (by omega)
      rw [← hu, ← this]
      congr 1
      unfold Addr.add
      split <;> simp_all
    · intro v' w' hown hgr
      have hb := row_base hown
      rw [← hlen, show vI l ++ [Value.int .i64 n] = vI (l ++ [n]) from (vI_snoc l n).symm] at hown
      obtain ⟨A', cap', rfl, hfly⟩ := Fly.of_row (g := g) (row_mono hown hlo) (fun b hb' => by have := hb b hb'; omega) (by omega)
      exact hK A' cap' w' hfly ((Below.refl lo w).grown hgr hlo (fun k hk => by cases hk)) (hgr.block _ hg (by intro he; cases he))
  · refine wpList_append_lies w hgd s x 38 ho lo 3 i _ 1 8 Try.underlying38 hi hz hsz hby rfl (by omega) _ _ _ hs hrow ad 1 1 [.int .i64 n] hx rfl hnews hone (by omega) (by unfold maxLen; omega) (by omega) hlo _ rfl ?_
    intro b cap' w' hown hgr hat hlt
    have hb := row_base hrow
    have hbg : ∀ k, (Value.slice A l.length cap).ownBlock = some k → k ≠ g := by
      intro k hk
      cases A with
      | none => simp [Value.ownBlock] at hk
      | some a0 => simp [Value.ownBlock] at hk; subst hk; exact (hf.pl a0 rfl).2.2
    rw [← hlen, show vI l ++ [Value.int .i64 n] = vI (l ++ [n]) from (vI_snoc l n).symm] at hown
    obtain ⟨A', cap2, he, hfly⟩ := Fly.of_row (g := g) hown (fun k hk => by
      simp [Value.ownBlock] at hk
      subst hk
      rcases hat with h1 | h1
      · exact hbg _ h1
      · omega) (by omega)
    injection he with e1 e2 e3
    subst e1 e3
    rw [← hlen]
    exact hK _ _ w' hfly ((Below.refl lo w).grown hgr hlo hb) (hgr.block _ hg (fun he => hbg g he.symm rfl))
end Go.Proofs.Ytfifimgmgmckfaa.Pg
