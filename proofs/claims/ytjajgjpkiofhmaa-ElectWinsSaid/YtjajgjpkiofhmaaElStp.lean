/-
  Layer 10: the laws' steps, in memory. Conditions: as each theorem states.
-/
import Derived.Test.YtjajgjpkiofhmaaElRow
namespace Go.Proofs.Ytjajgjpkiofhmaa.El
open Go.RowKit Go.Proofs.Ytjajgjpkiofhmaa.Qu Go.Proofs.Ytjajgjpkiofhmaa.Fld
set_option linter.unusedVariables false

structure Stp where
  d : Int
  draw : Int
  l0 : Int
  l1 : Int
  b : Bal
  VA : Option Addr
  vc : Nat
  vs : List Int
  LA : Option Addr
  lc : Nat
  ls : List Int
def Stp.cells (a : Stp) : List Value := [.int .i64 a.d, .int .i64 a.draw, .int .i64 a.l0, .int .i64 a.l1, .int .i64 a.b.kind, .int .i64 a.b.frm, .int .i64 a.b.to, .int .i64 a.b.term, .int .i64 a.b.idx, .int .i64 a.b.lt, .bool a.b.yes, .slice a.VA a.vs.length a.vc, .slice a.LA a.ls.length a.lc]
structure Stp.Ok (w : World) (a : Stp) : Prop where
  vs : RdI w a.VA a.vs.length a.vs
  ls : RdI w a.LA a.ls.length a.ls
theorem Stp.Ok.below {w w' : World} {a : Stp} (h : a.Ok w) (hb : Below w.heap.size w w') : a.Ok w' := ⟨h.vs.below hb, h.ls.below hb⟩
def stp0 : Stp := ⟨0, 0, 0, 0, b0, none, 0, [], none, 0, []⟩
/-- a slice of steps -/
def RdSt (w : World) (A : Option Addr) (n : Nat) (l : List Stp) : Prop :=
  l.length = n ∧ n ≤ maxLen ∧ (0 < n → ∃ b off, A = some ⟨b, off, none⟩ ∧ ∀ i (h : i < l.length) j, j < 13 → w.cell? ⟨b, off + i * 13 + j, none⟩ = l[i].cells[j]?) ∧ ∀ a ∈ l, a.Ok w
theorem RdSt.at13 {w w' : World} {A : Option Addr} {n : Nat} {l : List Stp} (h : RdSt w A n l) (hb : Below w.heap.size w w') (k : Nat) (hk : k < l.length) : ∃ b off, A = some ⟨b, off, none⟩ ∧ ∀ j v, j < 13 → l[k].cells[j]? = some v → w'.cell? ⟨b, off + k * 13 + j, none⟩ = some v := by
  obtain ⟨b, off, hA, hc⟩ := h.2.2.1 (by have := h.1; omega)
  refine ⟨b, off, hA, fun j v hj hv => ?_⟩
  have h1 := hc k hk j hj
  rw [hv] at h1
  exact (hb.cell (lt_of_cell h1)).trans h1
def stpC (a : Stp) : Array Value := #[.int .i64 a.d, .int .i64 a.draw, .int .i64 a.l0, .int .i64 a.l1, .int .i64 a.b.kind, .int .i64 a.b.frm, .int .i64 a.b.to, .int .i64 a.b.term, .int .i64 a.b.idx, .int .i64 a.b.lt, .bool a.b.yes, .slice a.VA a.vs.length a.vc, .slice a.LA a.ls.length a.lc]
/-- who: a node's number, its hard state, its group, its patience -/
def whoC (id t v : Int) (VA : Option Addr) (vn vc : Nat) (LA : Option Addr) (ln lc : Nat) (pat : Int) : Array Value := #[.int .i64 id, .int .i64 t, .int .i64 v, .slice VA vn vc, .slice LA ln lc, .int .i64 pat]
end Go.Proofs.Ytjajgjpkiofhmaa.El
