/-
  Layer 13: parts of a slice of numbers: s[f:], s[:u], s[:u:u], s[f:u]; a row of truth values. Conditions: as each theorem states.
-/
import Derived.Test.YtnmmpiddmckghaaDoorSeA
import Derived.Laws.MakeOwn
namespace Go.Proofs.YtnmmpiddmckghaaDoor.Se
open Go.RowKit Go.Proofs.YtnmmpiddmckghaaDoor.Qu Go.Proofs.YtnmmpiddmckghaaDoor.Fld
set_option linter.unusedVariables false

theorem rdI_tail {w : World} {A : Option Addr} {n : Nat} {zs : List Int} (hr : RdI w A n zs) (b off cap f : Nat) (hf : f ≤ n) (hn : n ≤ cap) (hA : A = some ⟨b, off, none⟩) : RdI w (some (past ⟨b, off, none⟩ cap f)) (n - f) (zs.drop f) := by
  obtain ⟨h1, h2, h3⟩ := hr
  refine ⟨by rw [List.length_drop, h1], by omega, fun hp => ?_⟩
  obtain ⟨b', off', he, hc⟩ := h3 (by omega)
  rw [hA] at he
  injection he with he
  injection he with e1 e2
  subst e1 e2
  unfold past
  rw [if_neg (by omega)]
  refine ⟨b, off + f, rfl, fun i hi => ?_⟩
  rw [Nat.add_assoc, hc (f + i) (by omega)]
  rw [List.getD_eq_getElem?_getD, List.getD_eq_getElem?_getD, List.getElem?_drop]
theorem rdI_cut {w : World} {A : Option Addr} {n : Nat} {zs : List Int} (hr : RdI w A n zs) (u : Nat) (hu : u ≤ n) : RdI w A u (zs.take u) := by
  obtain ⟨h1, h2, h3⟩ := hr
  refine ⟨by rw [List.length_take]; omega, by omega, fun hp => ?_⟩
  obtain ⟨b, off, rfl, hc⟩ := h3 (by omega)
  refine ⟨b, off, rfl, fun i hi => ?_⟩
  rw [hc i (by omega), List.getD_eq_getElem?_getD, List.getD_eq_getElem?_getD, List.getElem?_take, if_pos hi]
theorem run_none (W : World) : (Instr.slice 22 (.slice none 0 0) (some (.int .i64 0)) none none).run Tryd.prog W = .ok (.slice none 0 0) W := by go_simp
theorem run_zero (a : Addr) (cap : Nat) (hm : cap ≤ 9223372036854775807) (W : World) : (Instr.slice 22 (.slice (some a) 0 cap) (some (.int .i64 0)) none none).run Tryd.prog W = .ok (.slice (some a) 0 cap) W := by
  have h0 : (0 : Int) ≤ (cap : Int) := by omega
  go_simp
theorem run_upto (A : Option Addr) (n cap u : Nat) (hA : A = none → cap = 0) (hu : u ≤ cap) (W : World) : (Instr.slice 22 (.slice A n cap) none (some (.int .i64 (u : Int))) none).run Tryd.prog W = .ok (.slice A u cap) W := by
  cases A with
  | some a =>
    have h1 : (0 : Int) ≤ (u : Int) := by omega
    have h3 : (u : Int) ≤ (cap : Int) := by omega
    go_simp
  | none =>
    obtain rfl := hA rfl
    obtain rfl : u = 0 := by omega
    go_simp
theorem run_from (b off n cap f : Nat) (hf : f ≤ n) (hn : n ≤ cap) (hm : cap ≤ 9223372036854775807) (W : World) : (Instr.slice 22 (.slice (some ⟨b, off, none⟩) n cap) (some (.int .i64 (f : Int))) none none).run Tryd.prog W = .ok (.slice (some (past ⟨b, off, none⟩ cap f)) (n - f) (cap - f)) W := by
  unfold past
  by_cases h : cap = f
  · obtain rfl : n = f := by omega
    subst h
    rw [if_pos rfl]
    have h1 : (0 : Int) ≤ (cap : Int) := by omega
    go_simp
  · rw [if_neg h]
    have h1 : (0 : Int) ≤ (f : Int) := by omega
    have h2 : (f : Int) ≤ (n : Int) := by omega
    have h3 : (n : Int) ≤ (cap : Int) := by omega
    go_simp
/-- 's[f:]', wherever s lies -/
theorem tail_any {w : World} {A : Option Addr} {n cap : Nat} {zs : List Int} (hr : RdI w A n zs) (hA : A = none → cap = 0) (hn : n ≤ cap) (hm : cap ≤ 9223372036854775807) (f : Nat) (hf : f ≤ n) :
    ∃ A' cap', (∀ W, (Instr.slice 22 (.slice A n cap) (some (.int .i64 (f : Int))) none none).run Tryd.prog W = .ok (.slice A' (n - f) cap') W) ∧ RdI w A' (n - f) (zs.drop f) ∧ (A' = none → cap' = 0) ∧ n - f ≤ cap' := by
  rcases Nat.eq_zero_or_pos n with h0 | h0
  · subst h0
    obtain rfl : f = 0 := by omega
    obtain rfl : zs = [] := List.eq_nil_of_length_eq_zero hr.1
    cases A with
    | none =>
      obtain rfl := hA rfl
      exact ⟨none, 0, run_none, RdI.nil w _, fun _ => rfl, by omega⟩
    | some a => exact ⟨some a, cap, run_zero a cap hm, RdI.nil w _, (fun h => by cases h), by omega⟩
  · obtain ⟨b, off, rfl, _⟩ := hr.2.2 h0
    refine ⟨_, _, run_from b off n cap f hf hn hm, ?_, (fun h => by cases h), by omega⟩
    exact rdI_tail hr b off cap f hf hn rfl
theorem run_upto3 (A : Option Addr) (n cap u : Nat) (hA : A = none → cap = 0) (hu : u ≤ cap) (W : World) : (Instr.slice 22 (.slice A n cap) none (some (.int .i64 (u : Int))) (some (.int .i64 (u : Int)))).run Tryd.prog W = .ok (.slice A u u) W := by
  cases A with
  | some a =>
    have h1 : (0 : Int) ≤ (u : Int) := by omega
    have h3 : (u : Int) ≤ (cap : Int) := by omega
    go_simp
  | none =>
    obtain rfl := hA rfl
    obtain rfl : u = 0 := by omega
    go_simp
theorem run_part (b off n cap f u : Nat) (hf : f ≤ u) (hu : u ≤ cap) (W : World) : ∃ a, (∀ W : World, (Instr.slice 22 (.slice (some ⟨b, off, none⟩) n cap) (some (.int .i64 (f : Int))) (some (.int .i64 (u : Int))) none).run Tryd.prog W = .ok (.slice (some a) (u - f) (cap - f)) W) ∧ (f < cap → a = ⟨b, off + f, none⟩) := by
  by_cases h : cap = f
  · subst h
    obtain rfl : u = cap := by omega
    refine ⟨⟨b, off, none⟩, fun W => ?_, fun h => by omega⟩
    have h1 : (0 : Int) ≤ (u : Int) := by omega
    go_simp
  · refine ⟨⟨b, off + f, none⟩, fun W => ?_, fun _ => rfl⟩
    have h1 : (0 : Int) ≤ (f : Int) := by omega
    have h2 : (f : Int) ≤ (u : Int) := by omega
    have h3 : (u : Int) ≤ (cap : Int) := by omega
    go_simp
/-- a row of truth values -/
def bRow (l : List Bool) : Array Value := (l.map Value.bool).toArray
theorem bRow_made (N : Nat) : madeCells #[.bool false] N = bRow (List.replicate N false) := by
  apply Array.ext'
  apply List.ext_getElem?
  intro i
  by_cases hi : i < N
  · simp [bRow, madeCells, hi, Nat.mod_one]
  · simp [bRow, madeCells, hi]
theorem bRow_size (l : List Bool) : (bRow l).size = l.length := by simp [bRow]
theorem bRow_at (l : List Bool) (i : Nat) (h : i < l.length) : (bRow l)[i]? = some (.bool (l.getD i false)) := by simp [bRow, h]
theorem bRow_set (l : List Bool) (i : Nat) (v : Bool) : (bRow l).setIfInBounds i (.bool v) = bRow (l.set i v) := by
  apply Array.ext'
  simp [bRow, List.map_set]
theorem bool_info : ∃ i, Tryd.prog.info? 4 = some i ∧ i.zero = some (.bool false) ∧ i.size = 1 ∧ i.bytes = 1 := by
  have h : (Tryd.prog.info? 4).map (fun i => (i.zero, i.size, i.bytes)) = some (some (.bool false), 1, 1) := by kernel_rfl
  cases hq : Tryd.prog.info? 4 with
  | none => simp [hq] at h
  | some i => simp [hq] at h; exact ⟨i, rfl, h⟩
theorem wpList_make_bools {w : World} {ops : Array Oper} {rest : List Oper} {o : Oper} {a : Act} {Q : Exit → Act → World → Prop} (hg : o.guard = none) (l c : Operand) (hop : o.op = Op.makeSlice 54 l c)
    (L : Int) (n : Nat) (hl : a.eval l = .int .i64 L) (hc : a.eval c = .int .i64 L) (hL : L = (n : Int)) (hn : n ≤ 100000)
    (hK : ∀ w', Blk w' w.heap.size (bRow (List.replicate n false)) 4 ∧ Below w.heap.size w w' → wpList Tryd.prog ops Q rest (a.put o.dst (.slice (some ⟨w.heap.size, 0, none⟩) n n)) w') : wpList Tryd.prog ops Q (o :: rest) a w := by
  obtain ⟨i, hi, hz, hsz, hby⟩ := bool_info
  subst hL
  exact wpList_make_row (P := Tryd.prog) w hg l c 54 hop 4 i _ Tryd.underlying54 hi hz hsz rfl .i64 .i64 n hl hc (by rw [hby]; omega) (by omega) (hK _ (by rw [bRow_made]; exact ⟨Blk.new _ _ _, alloc_below _ _⟩))
end Go.Proofs.YtnmmpiddmckghaaDoor.Se
