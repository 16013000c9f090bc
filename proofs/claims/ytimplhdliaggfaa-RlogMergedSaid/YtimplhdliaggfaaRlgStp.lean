/-
  Layer 8: append of steps onto a row of a call's own. Conditions: the steps can be read; they are no more bytes than memory holds.
-/
import Derived.Test.YtimplhdliaggfaaRlgX
import Derived.Test.YtimplhdliaggfaaRlgCpt
import Derived.Maps.AppendAt
namespace Go.Proofs.Ytimplhdliaggfaa.Rg
open Go.RowKit Go.Proofs.Ytimplhdliaggfaa.Fld
set_option linter.unusedVariables false

def rowS (l : List Stp) : List Value := l.flatMap Stp.cells
theorem rowS_append (a b : List Stp) : rowS (a ++ b) = rowS a ++ rowS b := by simp [rowS]
theorem rowS_len (a : List Stp) : (rowS a).length = a.length * 4 := by
  induction a with
  | nil => rfl
  | cons x a ih => unfold rowS at *; rw [List.flatMap_cons, List.length_append, ih, List.length_cons]; show 4 + _ = _; omega
theorem rowS_at : ∀ (a : List Stp) (k j : Nat) (h : k < a.length) (hj : j < 4), (rowS a)[k * 4 + j]? = a[k].cells[j]?
  | [], k, j, h, _ => by simp at h
  | x :: a, 0, j, h, hj => by
    unfold rowS
    have hl : x.cells.length = 4 := rfl
    rw [List.flatMap_cons, List.getElem?_append_left (by omega)]
    simp
  | x :: a, k + 1, j, h, hj => by
    have ih := rowS_at a k j (by simpa using h) hj
    unfold rowS at *
    have hl : x.cells.length = 4 := rfl
    rw [List.flatMap_cons, List.getElem?_append_right (by omega), hl, show (k + 1) * 4 + j - 4 = k * 4 + j by omega, ih]
    simp
theorem rowS_one (a : List Stp) : ∀ u ∈ rowS a, u.oneCell' = true := by
  intro u hu
  simp only [rowS, List.mem_flatMap] at hu
  obtain ⟨x, _, hx⟩ := hu
  simp [Stp.cells] at hx
  rcases hx with rfl | rfl | rfl | rfl <;> rfl
theorem step_info : ∃ i, Try.prog.info? 33 = some i ∧ i.zero = some (.agg #[.int .i64 0, .int .i64 0, .int .i64 0, .slice none 0 0]) ∧ i.size = 4 ∧ i.bytes = 48 := by
  have h : (Try.prog.info? 33).map (fun i => (i.zero, i.size, i.bytes)) = some (some (.agg #[.int .i64 0, .int .i64 0, .int .i64 0, .slice none 0 0]), 4, 48) := by kernel_rfl
  cases hq : Try.prog.info? 33 with
  | none => simp [hq] at h
  | some i => simp [hq] at h; exact ⟨i, rfl, h⟩
theorem RdSt.cells {w : World} {A : Option Addr} {n : Nat} {l : List Stp} (h : RdSt w A n l) (hn : 0 < n) : ∃ b off, A = some ⟨b, off, none⟩ ∧ ∀ j v, (rowS l)[j]? = some v → w.cell? ⟨b, off + j, none⟩ = some v := by
  obtain ⟨b, off, hA, hc⟩ := h.2.2.1 hn
  refine ⟨b, off, hA, fun j v hj => ?_⟩
  have hjl : j < (rowS l).length := (List.getElem?_eq_some_iff.1 hj).1
  rw [rowS_len] at hjl
  have h1 := hc (j / 4) (by omega) (j % 4) (by omega)
  have h2 := rowS_at l (j / 4) (j % 4) (by omega) (by omega)
  rw [show j / 4 * 4 + j % 4 = j by omega] at h2
  rw [Nat.add_assoc, show j / 4 * 4 + j % 4 = j by omega] at h1
  rw [h1, ← h2, hj]
/-- append of steps onto a row of a call's own -/
theorem run_append_rowS (w : World) (ty : TypeId) (lo : Nat) (v : Value) (n : Nat) (xs : List Value) (hown : w.ownsRow lo 33 4 v n xs) (A : Option Addr) (m c : Nat) (ys : List Stp) (hr : RdSt w A m ys) (hA : A = none → c = 0) (hb : (n + m) * 48 ≤ 140737488355328) (hlo : lo ≤ w.heap.size) :
    ∃ v' w', (Builtin.append_ #[22, 22] ty #[v, .slice A m c]).run Try.prog w = .ok v' w' ∧ w'.ownsRow lo 33 4 v' (n + m) (xs ++ rowS ys) ∧ w.grownBy w' v.ownBlock ∧ (v'.ownBlock = v.ownBlock ∨ v'.ownBlock = some w.heap.size) := by
  obtain ⟨inf, i1, i2, i3, i4⟩ := step_info
  cases A with
  | none =>
    have hm : m = 0 := by
      rcases Nat.eq_zero_or_pos m with h | h
      · exact h
      · obtain ⟨b, off, he, _⟩ := hr.cells h; cases he
    subst hm
    obtain rfl : ys = [] := List.eq_nil_of_length_eq_zero hr.1
    obtain rfl := hA rfl
    refine ⟨v, w, run_append_owned_none (P := Try.prog) (w := w) lo 22 ty 33 inf 4 Try.underlying22 i1 v n xs hown, ?_, ⟨rfl, rfl, rfl, Nat.le_refl _, fun _ _ _ => rfl⟩, .inl rfl⟩
    rw [show rowS [] = [] from rfl, List.append_nil]
    exact hown
  | some ad =>
    obtain ⟨v', w', hrun, hrow, hg, _, hat⟩ := run_append_own_at (P := Try.prog) w lo 22 ty 33 inf _ 4 48 Try.underlying22 i1 i2 i3 i4 rfl (by omega) v n xs hown ad m c (rowS ys) (by rw [rowS_len, hr.1]) (by
      intro j u hu
      have hj : j < (rowS ys).length := (List.getElem?_eq_some_iff.1 hu).1
      rw [rowS_len, hr.1] at hj
      obtain ⟨b, off, he, hc⟩ := hr.cells (by omega)
      cases he
      rw [add_at]
      exact hc j u hu) (rowS_one ys) (by unfold maxLen; omega) (by omega) hlo
    exact ⟨v', w', hrun, hrow, hg, hat⟩
theorem step_append_rowS {w : World} {ops : Array Oper} {o : Oper} {a : Act} {K : Act → World → Prop} {Q : Exit → Act → World → Prop} {E : Prop} (hgd : o.guard = none) (s x : Operand)
    (ho : o.op = .call { callee := .builtin .append, args := #[s, x], argTypes := #[22, 22] })
    (lo : Nat) (v : Value) (n : Nat) (xs : List Value) (hs : a.eval s = v) (hown : w.ownsRow lo 33 4 v n xs)
    (A : Option Addr) (m c : Nat) (ys : List Stp) (hx : a.eval x = .slice A m c) (hr : RdSt w A m ys) (hA : A = none → c = 0) (hb : (n + m) * 48 ≤ 140737488355328) (hlo : lo ≤ w.heap.size)
    (h : ∀ v' w', w'.ownsRow lo 33 4 v' (n + m) (xs ++ rowS ys) → w.grownBy w' v.ownBlock → (v'.ownBlock = v.ownBlock ∨ v'.ownBlock = some w.heap.size) → K (a.put o.dst v') w') :
    if Region.wanted o (yielded ops a.tmps) = true then Oper.wp Try.prog o a w K Q else E := by
  have hw : Region.wanted o (yielded ops a.tmps) = true := by simp [Region.wanted, hgd]
  rw [if_pos hw]
  obtain ⟨v', w', hrun, h1, h2, h3⟩ := run_append_rowS w o.type lo v n xs hown A m c ys hr hA hb hlo
  unfold Oper.wp execOp
  simp only [ho, resolve, invoke, builtin, Sem.run_bind, Sem.run_pure, Result.andThen_ok, List.map_toArray, List.map_cons, List.map_nil, hs, hx, hrun]
  exact h v' w' h1 h2 h3
/-- a row of steps can be read -/
theorem row_rdS {w : World} {lo n cap : Nat} {A : Option Addr} {l : List Stp} (h : w.ownsRow lo 33 4 (.slice A n cap) n (rowS l)) (hd : ∀ a ∈ l, a.Ok w) : RdSt w A n l := by
  have hl : l.length = n := by have := h.1; rw [rowS_len] at this; omega
  refine ⟨hl, by obtain ⟨_, _, he, _, h1, h2, _⟩ := row_slice h; cases he; omega, fun hn => ?_, hd⟩
  rcases h.2 with ⟨h, h0⟩ | ⟨g', cap', cur, he, hg, hh, h4, h5, h6, h7⟩
  · omega
  · cases he
    refine ⟨g', 0, rfl, fun i hi j hj => ?_⟩
    have h2 := rowS_at l i j hi hj
    have h3 : (l[i].cells[j]?).isSome = true := by rw [List.getElem?_eq_getElem (by show j < 4; exact hj)]; rfl
    obtain ⟨v, hv⟩ := Option.isSome_iff_exists.1 h3
    rw [hv] at h2 ⊢
    rw [Nat.zero_add]
    exact (row_cells h _ v h2).1
end Go.Proofs.Ytimplhdliaggfaa.Rg
