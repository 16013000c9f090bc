/-
  What the statements' own function whole answers for whatever list of bytes: the records one behind the other, and where each ends; or that it is too much. Conditions: the list can be read.
-/
import Derived.Test.YtejphnbhcabchaaGreatRecSame
namespace Go.Proofs.YtejphnbhcabchaaGreat.Rc
open Go.RowKit
open Fld (Bytes val Rd RdL)
set_option linter.unusedVariables false

/-- where each record ends -/
def endOf (ls : List (List Int)) (j : Nat) : Nat := (recs (ls.take (j + 1))).length
def endsV (ls : List (List Int)) (k : Nat) : List Value := (List.range k).map fun j => .int .i64 ((endOf ls j : Nat) : Int)
theorem endsV_succ (ls : List (List Int)) (k : Nat) : endsV ls (k + 1) = endsV ls k ++ [.int .i64 ((endOf ls k : Nat) : Int)] := by simp [endsV, List.range_succ]
theorem endsV_len (ls : List (List Int)) (k : Nat) : (endsV ls k).length = k := by simp [endsV]
theorem int_info : ∃ i, Tryz.prog.info? 3 = some i ∧ i.zero = some (.int .i64 0) ∧ i.size = 1 ∧ i.bytes = 8 := by
  have h : (Tryz.prog.info? 3).map (fun i => (i.zero, i.size, i.bytes)) = some (some (.int .i64 0), 1, 8) := by kernel_rfl
  cases hq : Tryz.prog.info? 3 with
  | none => simp [hq] at h
  | some i => simp [hq] at h; exact ⟨i, rfl, h⟩
/-- two rows of unlike types do not share a block -/
theorem rows_apart {W : World} {e e' : TypeId} (hne : e ≠ e') {base base' s s' k k' : Nat} {v v' : Value} {xs xs' : List Value} (h : W.ownsRow base e s v k xs) (h' : W.ownsRow base' e' s' v' k' xs') : v'.ownBlock = none ∨ v'.ownBlock ≠ v.ownBlock := by
  rcases h'.2 with ⟨rfl, _⟩ | ⟨g', cap', cur', rfl, _, hgb', _⟩
  · exact .inl rfl
  · refine .inr ?_
    rcases h.2 with ⟨rfl, _⟩ | ⟨g, cap, cur, rfl, _, hgb, _⟩
    · simp [Value.ownBlock]
    · intro eq
      obtain rfl : g' = g := by simpa [Value.ownBlock] using eq
      rw [hgb] at hgb'
      simp at hgb'
      exact hne hgb'.2
/-- append of one number to a row of numbers -/
theorem wpList_append_int {w : World} {ops : Array Oper} {rest : List Oper} {o : Oper} {a : Act} {Q : Exit → Act → World → Prop} (hgd : o.guard = none) (s x : Operand)
    (ho : o.op = .call { callee := .builtin .append, args := #[s, x], argTypes := #[33, 33] })
    (base : Nat) (v : Value) (k : Nat) (vs : List Value) (z : Int) (hs : a.eval s = v) (hown : w.ownsRow base 3 1 v k vs) (g : Nat) (hx : a.eval x = .slice (some ⟨g, 0, none⟩) 1 1) (hc : w.cell? ⟨g, 0, none⟩ = some (.int .i64 z))
    (hk : k + 1 ≤ 1099511627776) (hb : base ≤ w.heap.size)
    (h : ∀ v' w', w'.ownsRow base 3 1 v' (k + 1) (vs ++ [.int .i64 z]) → w.grownBy w' v.ownBlock → wpList Tryz.prog ops Q rest (a.put o.dst v') w') : wpList Tryz.prog ops Q (o :: rest) a w := by
  obtain ⟨i, hi, hz, hsz, hby⟩ := int_info
  refine wpList_append_own_at w hgd s x _ ho base 3 i _ 1 8 Tryz.underlying33 hi hz hsz hby rfl (by omega) v k vs hs hown ⟨g, 0, none⟩ 1 1 [.int .i64 z] hx rfl ?_ ?_ (by unfold maxLen; omega) (by omega) hb ?_
  · intro j u hu
    rcases j with _ | j
    · simp at hu; subst hu; exact hc
    · simp at hu
  · intro u hu; simp at hu; subst hu; rfl
  · intro v' w' h1 h2 _ _
    exact h v' w' h1 h2
theorem row_below {W W' : World} {base e s k : Nat} {v : Value} {vs : List Value} (h : W.ownsRow base e s v k vs) (hO : Below W.heap.size W W') : W'.ownsRow base e s v k vs := by
  obtain ⟨h1, h2⟩ := h
  refine ⟨h1, ?_⟩
  rcases h2 with h2 | ⟨g, cap, cur, e, h3, h4, h5⟩
  · exact .inl h2
  · exact .inr ⟨g, cap, cur, e, h3, (hO.block g (Array.getElem?_eq_some_iff.1 h4).1).trans h4, h5⟩
theorem own_kept {w0 W W' : World} {row : Option Nat} {v : Value} {zs : List Int} (h : Fld.Own w0 W v zs) (hg : W.grownBy W' row) (hr : v.ownBlock = none ∨ v.ownBlock ≠ row) (hb : ∀ r, row = some r → w0.heap.size ≤ r) : Fld.Own w0 W' v zs :=
  ⟨h.1.grown hg h.1.size hb, h.2.1, h.2.2.kept hg hr⟩
theorem row_base {W : World} {base e s k : Nat} {v : Value} {vs : List Value} (h : W.ownsRow base e s v k vs) : ∀ r, v.ownBlock = some r → base ≤ r := by
  intro r hr
  rcases h.2 with ⟨rfl, _⟩ | ⟨g, cap, cur, rfl, hg, _⟩
  · simp [Value.ownBlock] at hr
  · simp [Value.ownBlock] at hr; omega

def WhR (w : World) (ls : List (List Int)) (M : Nat) (v u i : Value) (wr : World) : Prop := ∃ k : Nat, k ≤ M ∧ i = .int .i64 (k : Int) ∧ Small (ls.take k) ∧ (recs (ls.take k)).length ≤ 565544 ∧ Fld.Own w wr v (recs (ls.take k)) ∧ wr.ownsRow w.heap.size 3 1 u k (endsV ls k)
def IsWhole (w : World) (ls : List (List Int)) (e : Ending) (w' : World) : Prop :=
  (∃ v u, e = .returned (.tuple #[v, u, .bool true]) ∧ Small ls ∧ (recs ls).length ≤ 565544 ∧ Fld.Own w w' v (recs ls) ∧ w'.ownsRow w.heap.size 3 1 u ls.length (endsV ls ls.length)) ∨
  (e = .returned (.tuple #[.slice none 0 0, .slice none 0 0, .bool false]) ∧ Below w.heap.size w w' ∧ ¬ (Small ls ∧ (recs ls).length ≤ 500000))
theorem whole_neg1 (ls : List (List Int)) (k : Nat) (hk : k < ls.length) (h : 65536 < (ls.getD k []).length) : ¬ (Small ls ∧ (recs ls).length ≤ 500000) := by
  rintro ⟨hs, _⟩
  have := hs (ls.getD k []) (by rw [List.getD_eq_getElem?_getD, List.getElem?_eq_getElem hk]; simp)
  omega
theorem whole_neg2 (ls : List (List Int)) (k : Nat) (h : 500000 < (recs (ls.take k)).length) : ¬ (Small ls ∧ (recs ls).length ≤ 500000) := by
  rintro ⟨_, hl⟩
  rw [recs_split ls k, List.length_append] at hl
  omega
end Go.Proofs.YtejphnbhcabchaaGreat.Rc
