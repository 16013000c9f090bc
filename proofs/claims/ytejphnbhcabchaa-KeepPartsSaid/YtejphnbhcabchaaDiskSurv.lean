/-
  What a crash leaves of a file. Conditions: the file's bytes can be read.
-/
import Derived.Test.YtejphnbhcabchaaDiskRead
namespace Go.Proofs.Ytejphnbhcabchaa.Dk
open Go.RowKit Go.Proofs.Ytejphnbhcabchaa.Fld

def nstay (k : Int) (n s : Nat) : Nat := s + (min (max k 0) ((n - s : Nat) : Int)).toNat
theorem own_set {w0 w : World} {v : Value} {zs : List Int} (h : Own w0 w v zs) (p : Addr) (hp : w0.heap.size ≤ p.block) (hv : v.ownBlock ≠ some p.block) (u : Value) : Own w0 (w.setCell p u) v zs := by
  obtain ⟨hb, hby, hl, h⟩ := h
  refine ⟨hb.setCell hp _, hby, hl, ?_⟩
  rcases h with h | ⟨q, cap, cur, rfl, hg, hh, r⟩
  · exact .inl h
  · exact .inr ⟨q, cap, cur, rfl, hg, (Below.heap_setCell _ _ _ _ (by intro e; apply hv; rw [e]; rfl)).trans hh, r⟩
theorem own_ge {w0 w : World} {v : Value} {zs : List Int} (h : Own w0 w v zs) {i : Nat} (hi : v.ownBlock = some i) : w0.heap.size ≤ i := by
  rcases h.2.2.2 with ⟨rfl, _⟩ | ⟨q, cap, cur, rfl, hg, _⟩
  · cases hi
  · cases hi; exact hg
end Go.Proofs.Ytejphnbhcabchaa.Dk
