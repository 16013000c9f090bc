/-
  Layer 10: rows of ballots of a call's own, and append onto them. Conditions: as each theorem states.
-/
import Derived.Test.YtnhcbampojpgfaaGreatElMem
import Derived.Deep.RegionHeld3
import Derived.Deep.RegionWith
import Derived.Deep.RegionLaw
namespace Go.Proofs.YtnhcbampojpgfaaGreat.El
open Go.RowKit Go.Proofs.YtnhcbampojpgfaaGreat.Qu Go.Proofs.YtnhcbampojpgfaaGreat.Fld
set_option linter.unusedVariables false

theorem addB (b off j : Nat) : Addr.add (⟨b, off, none⟩ : Addr) j = ⟨b, off + j, none⟩ := by
  unfold Addr.add
  split
  · simp_all
  · rfl
theorem run_append_rowB (w : World) (ty : TypeId) (lo : Nat) (v : Value) (n : Nat) (xs : List Value) (hown : w.ownsRow lo 144 7 v n xs) (A : Option Addr) (m c : Nat) (ys : List Bal) (hr : RdB w A m ys) (hA : A = none → c = 0) (hb : n + m ≤ 2000000) (hlo : lo ≤ w.heap.size) :
    ∃ v' w', (Builtin.append_ #[118, 118] ty #[v, .slice A m c]).run Tryz.prog w = .ok v' w' ∧ w'.ownsRow lo 144 7 v' (n + m) (xs ++ rowB ys) ∧ w.grownBy w' v.ownBlock ∧ (v'.ownBlock = v.ownBlock ∨ v'.ownBlock = some w.heap.size) := by
  obtain ⟨inf, i1, i2, i3, i4⟩ := ballot_info
  cases A with
  | none =>
    have hm : m = 0 := by
      rcases Nat.eq_zero_or_pos m with h | h
      · exact h
      · obtain ⟨b, off, he, _⟩ := hr.2.2 h; cases he
    subst hm
    obtain rfl : ys = [] := List.eq_nil_of_length_eq_zero hr.1
    obtain rfl := hA rfl
    refine ⟨v, w, run_append_owned_none (P := Tryz.prog) (w := w) lo 118 ty 144 inf 7 Tryz.underlying118 i1 v n xs hown, ?_, ⟨rfl, rfl, rfl, Nat.le_refl _, fun _ _ _ => rfl⟩, .inl rfl⟩
    rw [show rowB [] = [] from rfl, List.append_nil]
    exact hown
  | some ad =>
    obtain ⟨v', w', hrun, hrow, hg, _, hat⟩ := run_append_own_at (P := Tryz.prog) w lo 118 ty 144 inf _ 7 56 Tryz.underlying118 i1 i2 i3 i4 rfl (by omega) v n xs hown ad m c (rowB ys) (by rw [rowB_len, hr.1]) (by
      intro j u hu
      have hj : j < (rowB ys).length := (List.getElem?_eq_some_iff.1 hu).1
      rw [rowB_len, hr.1] at hj
      obtain ⟨b, off, he, hc⟩ := hr.2.2 (by omega)
      cases he
      rw [addB]
      exact hc j u hu) (rowB_one ys) (by unfold maxLen; omega) (by omega) hlo
    exact ⟨v', w', hrun, hrow, hg, hat⟩
theorem wpList_append_rowB {w : World} {ops : Array Oper} {rest : List Oper} {o : Oper} {a : Act} {Q : Exit → Act → World → Prop} (hgd : o.guard = none) (s x : Operand)
    (ho : o.op = .call { callee := .builtin .append, args := #[s, x], argTypes := #[118, 118] })
    (lo : Nat) (v : Value) (n : Nat) (xs : List Value) (hs : a.eval s = v) (hown : w.ownsRow lo 144 7 v n xs)
    (A : Option Addr) (m c : Nat) (ys : List Bal) (hx : a.eval x = .slice A m c) (hr : RdB w A m ys) (hA : A = none → c = 0) (hb : n + m ≤ 2000000) (hlo : lo ≤ w.heap.size)
    (h : ∀ v' w', w'.ownsRow lo 144 7 v' (n + m) (xs ++ rowB ys) → w.grownBy w' v.ownBlock → (v'.ownBlock = v.ownBlock ∨ v'.ownBlock = some w.heap.size) → wpList Tryz.prog ops Q rest (a.put o.dst v') w') : wpList Tryz.prog ops Q (o :: rest) a w := by
  obtain ⟨v', w', hrun, h1, h2, h3⟩ := run_append_rowB w o.type lo v n xs hown A m c ys hr hA hb hlo
  refine wpList_plain hgd fun K' hK' => ?_
  unfold Oper.wp execOp
  simp only [ho, resolve, invoke, builtin, Sem.run_bind, Sem.run_pure, Result.andThen_ok, List.map_toArray, List.map_cons, List.map_nil, hs, hx, hrun]
  exact hK' _ _ (h v' w' h1 h2 h3)
theorem step_append_rowB {w : World} {ops : Array Oper} {o : Oper} {a : Act} {K : Act → World → Prop} {Q : Exit → Act → World → Prop} {E : Prop} (hgd : o.guard = none) (s x : Operand)
    (ho : o.op = .call { callee := .builtin .append, args := #[s, x], argTypes := #[118, 118] })
    (lo : Nat) (v : Value) (n : Nat) (xs : List Value) (hs : a.eval s = v) (hown : w.ownsRow lo 144 7 v n xs)
    (A : Option Addr) (m c : Nat) (ys : List Bal) (hx : a.eval x = .slice A m c) (hr : RdB w A m ys) (hA : A = none → c = 0) (hb : n + m ≤ 2000000) (hlo : lo ≤ w.heap.size)
    (h : ∀ v' w', w'.ownsRow lo 144 7 v' (n + m) (xs ++ rowB ys) → w.grownBy w' v.ownBlock → (v'.ownBlock = v.ownBlock ∨ v'.ownBlock = some w.heap.size) → K (a.put o.dst v') w') :
    if Region.wanted o (yielded ops a.tmps) = true then Oper.wp Tryz.prog o a w K Q else E := by
  have hw : Region.wanted o (yielded ops a.tmps) = true := by simp [Region.wanted, hgd]
  rw [if_pos hw]
  obtain ⟨v', w', hrun, h1, h2, h3⟩ := run_append_rowB w o.type lo v n xs hown A m c ys hr hA hb hlo
  unfold Oper.wp execOp
  simp only [ho, resolve, invoke, builtin, Sem.run_bind, Sem.run_pure, Result.andThen_ok, List.map_toArray, List.map_cons, List.map_nil, hs, hx, hrun]
  exact h v' w' h1 h2 h3
theorem row_lo {w : World} {base size n : Nat} {ety : TypeId} {v : Value} {xs : List Value} (h : w.ownsRow base ety size v n xs) : ∀ i, v.ownBlock = some i → base ≤ i ∧ i < w.heap.size := by
  intro i he
  rcases h.2 with ⟨rfl, _⟩ | ⟨g, cap, cur, rfl, hg, hq, _⟩
  · cases he
  · cases he
    exact ⟨hg, (Array.getElem?_eq_some_iff.1 hq).1⟩
theorem row_of {w w' : World} {base size n : Nat} {ety : TypeId} {v : Value} {xs : List Value} (h : w.ownsRow base ety size v n xs) (hb : ∀ i, v.ownBlock = some i → w'.heap[i]? = w.heap[i]?) : w'.ownsRow base ety size v n xs := by
  obtain ⟨h1, h2⟩ := h
  refine ⟨h1, ?_⟩
  rcases h2 with h2 | ⟨q, cap, cur, hv, hg, hq, r⟩
  · exact .inl h2
  · exact .inr ⟨q, cap, cur, hv, hg, (hb q (by rw [hv]; rfl)).trans hq, r⟩
theorem row_lower {w : World} {base base' size n : Nat} {ety : TypeId} {v : Value} {xs : List Value} (h : w.ownsRow base ety size v n xs) (hb : base' ≤ base) : w.ownsRow base' ety size v n xs := by
  refine ⟨h.1, ?_⟩
  rcases h.2 with h | ⟨q, cap, cur, hv, hg, r⟩
  · exact .inl h
  · exact .inr ⟨q, cap, cur, hv, Nat.le_trans hb hg, r⟩
theorem row_slice {w : World} {base size n : Nat} {ety : TypeId} {v : Value} {xs : List Value} (h : w.ownsRow base ety size v n xs) : ∃ A cap, v = .slice A n cap ∧ (∀ a, A = some a → a.spot = none ∧ a.off = 0) ∧ n ≤ cap ∧ cap ≤ maxLen ∧ (A = none → cap = 0 ∧ n = 0) := by
  rcases h.2 with ⟨rfl, rfl⟩ | ⟨q, cap, cur, rfl, hg, hq, hn, hm, _⟩
  · exact ⟨none, 0, rfl, (fun a h => by cases h), by omega, by unfold maxLen; omega, fun _ => ⟨rfl, rfl⟩⟩
  · exact ⟨_, cap, rfl, (fun a h => by cases h; exact ⟨rfl, rfl⟩), hn, hm, fun h => by cases h⟩
theorem row_ne {w : World} {base size n B : Nat} {ety ty : TypeId} {v : Value} {xs : List Value} {cs : Array Value} (h : w.ownsRow base ety size v n xs) (hB : Blk w B cs ty) (ht : ety ≠ ty) : v.ownBlock ≠ some B := by
  intro he
  rcases h.2 with ⟨rfl, _⟩ | ⟨g, cap, cur, rfl, _, hg, _⟩
  · cases he
  · cases he
    unfold Blk at hB
    rw [hB] at hg
    cases hg
    exact ht rfl
theorem row_nil (w : World) (lo : Nat) (ety : TypeId) (size : Nat) : w.ownsRow lo ety size (.slice none 0 0) 0 [] := ⟨by simp, .inl ⟨rfl, rfl⟩⟩
/-- a row's cells -/
theorem row_cells {w : World} {lo n g cap size : Nat} {ety : TypeId} {xs : List Value} (h : w.ownsRow lo ety size (.slice (some ⟨g, 0, none⟩) n cap) n xs) : ∀ j v, xs[j]? = some v → w.cell? ⟨g, j, none⟩ = some v ∧ w.frozen? ⟨g, j, none⟩ = false := by
  intro j v hj
  rcases h.2 with ⟨h, _⟩ | ⟨g', cap', cur, he, hg, hh, h4, h5, h6, h7⟩
  · cases h
  · injection he with e1 e2 e3
    injection e1 with e1
    injection e1 with e1
    subst e1 e3
    refine ⟨?_, frozen_of_row w g j cur _ hh⟩
    rw [cell_of_row w g j cur _ (0, 0) hh]
    rw [← h7, List.getElem?_take] at hj
    split at hj
    · rw [Array.getElem?_toList] at hj; exact hj
    · cases hj
/-- v is a slice of the ballots l in memory of the call's own, made behind w0; what was there at w0 is as it was -/
def OwnB (w0 w : World) (v : Value) (l : List Bal) : Prop := Below w0.heap.size w0 w ∧ w.ownsRow w0.heap.size 144 7 v l.length (rowB l)
theorem OwnB.nil (w0 w : World) (hb : Below w0.heap.size w0 w) : OwnB w0 w (.slice none 0 0) [] := ⟨hb, row_nil _ _ _ _⟩
theorem OwnB.below {w0 w w' : World} {v : Value} {l : List Bal} (h : OwnB w0 w v l) (hb : Below w.heap.size w w') : OwnB w0 w' v l :=
  ⟨h.1.trans (hb.mono h.1.size), row_of h.2 fun i hi => hb.block i (row_lo h.2 i hi).2⟩
theorem OwnB.since {w0 w1 w : World} {v : Value} {l : List Bal} (h : OwnB w1 w v l) (hb : Below w0.heap.size w0 w1) : OwnB w0 w v l := ⟨hb.trans (h.1.mono hb.size), row_lower h.2 hb.size⟩
theorem rowB_read {w : World} {lo n cap : Nat} {A : Option Addr} {l : List Bal} (h : w.ownsRow lo 144 7 (.slice A n cap) n (rowB l)) : RdB w A n l := by
  have hl : l.length = n := by have := h.1; rw [rowB_len] at this; omega
  refine ⟨hl, by obtain ⟨_, _, he, _, h1, h2, _⟩ := row_slice h; cases he; omega, fun hn => ?_⟩
  rcases h.2 with ⟨_, h0⟩ | ⟨g', cap', cur, he, hg, hh, h4, h5, h6, h7⟩
  · omega
  · cases he
    refine ⟨g', 0, rfl, fun j v hj => ?_⟩
    rw [Nat.zero_add]
    exact (row_cells h j v hj).1
theorem OwnB.push {w0 w W w3 : World} {v v' : Value} {l ys : List Bal} (h : OwnB w0 w v l) (hW : Below w.heap.size w W) (hg : W.grownBy w3 v.ownBlock) (hr : w3.ownsRow w0.heap.size 144 7 v' (l.length + ys.length) (rowB l ++ rowB ys)) : OwnB w0 w3 v' (l ++ ys) := by
  have hb : Below w0.heap.size w0 W := h.1.trans (hW.mono h.1.size)
  refine ⟨hb.grown hg hb.size fun r hr' => (row_lo h.2 r hr').1, ?_⟩
  rw [List.length_append, rowB_append]
  exact hr
def ballC (x : Bal) : Array Value := #[.int .i64 x.kind, .int .i64 x.frm, .int .i64 x.to, .int .i64 x.term, .int .i64 x.idx, .int .i64 x.lt, .bool x.yes]
theorem rdB_one {w : World} {g : Nat} {x : Bal} (h : Blk w g (ballC x) 144) : RdB w (some ⟨g, 0, none⟩) 1 [x] := by
  refine ⟨rfl, by unfold maxLen; omega, fun _ => ⟨_, 0, rfl, fun j v hj => ?_⟩⟩
  rw [Nat.zero_add]
  refine Blk.cell h j v ?_
  rw [← Array.getElem?_toList]
  show (x.cells)[j]? = some v
  simpa [rowB] using hj
/-- one ballot made -/
theorem ownB_one (w0 w : World) (hb : Below w0.heap.size w0 w) (x : Bal) : OwnB w0 (w.alloc (.cells (ballC x) 144)) (.slice (some ⟨w.heap.size, 0, none⟩) 1 1) [x] :=
  ⟨hb.trans ((alloc_below w _).mono hb.size), by simp [rowB, Bal.cells], .inr ⟨_, 1, _, rfl, hb.size, heap_alloc_new w _, Nat.le_refl _, by unfold maxLen; omega, rfl, by simp [rowB, Bal.cells, ballC]⟩⟩
end Go.Proofs.YtnhcbampojpgfaaGreat.El
