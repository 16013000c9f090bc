/-
  Layer 10: both nodes at once. Conditions: as each theorem states.
-/
import Derived.Test.YtjajgjpkiofhmaaElR6
import Derived.Test.YtjajgjpkiofhmaaElR5
import Derived.Test.YtjajgjpkiofhmaaElAw
import Derived.Test.YtjajgjpkiofhmaaElStp
namespace Go.Proofs.Ytjajgjpkiofhmaa.El
open Go.RowKit Go.Proofs.Ytjajgjpkiofhmaa.Qu Go.Proofs.Ytjajgjpkiofhmaa.Fld
set_option linter.unusedVariables false

/-- the program's node and the document's, made behind w, in memory that they do not share -/
structure Pr (w wr : World) (p : Pl) (q : Ql) (s r : St) (N : Nat) : Prop where
  im : Im wr p s
  rm : Rm w.heap.size N wr q r
  new : ∀ i ∈ p.all, w.heap.size ≤ i ∧ i < wr.heap.size
  dis : ∀ i ∈ p.all, i ∉ q.foot
  bel : Below w.heap.size w wr
theorem Pl.ft_all {p : Pl} {i : Nat} (h : i ∈ p.ft) : i ∈ p.all := by
  simp only [Pl.ft, Pl.all, List.mem_cons, List.not_mem_nil, or_false] at h ⊢
  rcases h with rfl | rfl <;> simp
theorem Pr.below {w wr W : World} {p : Pl} {q : Ql} {s r : St} {N : Nat} (h : Pr w wr p q s r N) (hb : Below wr.heap.size wr W) : Pr w W p q s r N :=
  ⟨h.im.below hb, h.rm.below hb, fun i hi => ⟨(h.new i hi).1, Nat.lt_of_lt_of_le (h.new i hi).2 hb.size⟩, h.dis, h.bel.trans (hb.mono h.bel.size)⟩
theorem Pr.mono {w wr : World} {p : Pl} {q : Ql} {s r : St} {N N' : Nat} (h : Pr w wr p q s r N) (hn : N ≤ N') : Pr w wr p q s r N' := ⟨h.im, h.rm.mono hn, h.new, h.dis, h.bel⟩
theorem Pr.left {w wr W : World} {p p' : Pl} {q : Ql} {s s' r : St} {N : Nat} (h : Pr w wr p q s r N) (k : Did wr W p' s') (hf : p'.ft = p.ft) (ha : ∀ i ∈ p'.all, i ∈ p.all ∨ wr.heap.size ≤ i) (hl : ∀ i ∈ p'.all, i < W.heap.size) : Pr w W p' q s' r N := by
  have hs := h.bel.size
  have hq : ∀ i ∈ q.foot, i ∉ p'.ft := fun i hi hm => h.dis i (Pl.ft_all (by rw [hf] at hm; exact hm)) hi
  have hp : ∀ i ∈ p'.ft, w.heap.size ≤ i := fun i hm => (h.new i (Pl.ft_all (by rw [hf] at hm; exact hm))).1
  refine ⟨k.im, h.rm.fr k.fr hq hp, fun i hi => ⟨?_, hl i hi⟩, fun i hi hm => ?_, Dk.Fr.to_below h.bel k.fr hp⟩
  · rcases ha i hi with h1 | h1
    · exact (h.new i h1).1
    · omega
  · rcases ha i hi with h1 | h1
    · exact h.dis i h1 hm
    · have := (h.rm.rb.flt i hm).2; omega
theorem Pr.left1 {w wr W : World} {p : Pl} {q : Ql} {s s' r : St} {N : Nat} (h : Pr w wr p q s r N) (k : Did wr W p s') : Pr w W p q s' r N :=
  h.left k rfl (fun i hi => .inl hi) (fun i hi => Nat.lt_of_lt_of_le (h.new i hi).2 k.fr.size)
theorem Pr.right {w wr W : World} {p : Pl} {q q' : Ql} {s r r' : St} {N N' : Nat} (h : Pr w wr p q s r N) (k : RD w.heap.size N' wr W q q' r') : Pr w W p q' s r' N' := by
  have hs := h.bel.size
  refine ⟨h.im.fr k.fr (fun i hi hm => h.dis i hi hm), k.rm, fun i hi => ⟨(h.new i hi).1, Nat.lt_of_lt_of_le (h.new i hi).2 k.fr.size⟩, fun i hi hm => ?_, Dk.Fr.to_below h.bel k.fr (fun i hi => (h.rm.rb.flt i hi).1)⟩
  rcases k.ft i hm with h1 | h1
  · exact h.dis i hi h1
  · have := (h.new i hi).2; omega
/-- both are made -/
theorem Pr.start {w w0 w1 w2 : World} {p : Pl} {q : Ql} {s : St} {N : Nat} (hb : Below w.heap.size w w0) (h : Made w0 w1 p s) (k : MadeR w.heap.size N w1 w2 q s) : Pr w w2 p q s s N := by
  have h1 : Below w.heap.size w w1 := hb.trans (h.bel.mono hb.size)
  exact ⟨h.im.below k.bel, k.rm, fun i hi => ⟨Nat.le_trans hb.size (h.new i hi).1, Nat.lt_of_lt_of_le (h.new i hi).2 k.bel.size⟩, fun i hi hm => (by have := (h.new i hi).2; have := k.new i hm; omega), h1.trans (k.bel.mono h1.size)⟩
/-- the answers of both calls, once both are made -/
theorem two_rows {w wr w1 w2 : World} {p : Pl} {q q' : Ql} {s r' : St} {N N' : Nat} {v v' : Value} {out : List Bal} (h : Pr w w1 p q s r' N) (hv : w1.ownsRow wr.heap.size 40 7 v out.length (rowB out)) (hq : ∀ i ∈ q.foot, i < wr.heap.size) {s2 : St} (k : RA w.heap.size N' w1 w2 q q' s2 v' out) :
    ∃ A n c A' c', v = .slice A n c ∧ v' = .slice A' n c' ∧ RdB w2 A n out ∧ RdB w2 A' n out := by
  have h2 : w2.ownsRow wr.heap.size 40 7 v out.length (rowB out) := row_of hv fun i hi => k.did.fr.block i (row_lo hv i hi).2 (fun hm => by have := hq i hm; have := (row_lo hv i hi).1; omega)
  obtain ⟨A, c, e1, _⟩ := row_slice hv
  obtain ⟨A', c', e2, _⟩ := row_slice k.out
  have k2 := k.out
  rw [e1] at h2
  rw [e2] at k2
  exact ⟨A, out.length, c, A', c', e1, e2, rowB_read h2, rowB_read k2⟩
end Go.Proofs.Ytjajgjpkiofhmaa.El
