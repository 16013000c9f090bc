/-
  Layer 4 in memory: which blocks a call may have changed (Fr), the disk's block (Dsk), the map of its files. Conditions: as each theorem states.
-/
import Derived.Test.YtnhcbampojpgfaaGreatFieldBase
import Derived.Maps.OwnSet
namespace Go.Proofs.YtnhcbampojpgfaaGreat.Dk
open Go.RowKit Go.Proofs.YtnhcbampojpgfaaGreat.Fld

/-- of the blocks that were there, those on the list alone may have changed -/
structure Fr (S : List Nat) (w w' : World) : Prop where
  os : w'.os = w.os
  tape : w'.tape = w.tape
  output : w'.output = w.output
  size : w.heap.size ≤ w'.heap.size
  block : ∀ k, k < w.heap.size → k ∉ S → w'.heap[k]? = w.heap[k]?
theorem Fr.refl (S : List Nat) (w : World) : Fr S w w := ⟨rfl, rfl, rfl, Nat.le_refl _, fun _ _ _ => rfl⟩
theorem Fr.trans {S S' : List Nat} {a b c : World} (h : Fr S a b) (k : Fr S' b c) (hs : ∀ i ∈ S', i ∈ S ∨ a.heap.size ≤ i) : Fr S a c :=
  ⟨k.os.trans h.os, k.tape.trans h.tape, k.output.trans h.output, Nat.le_trans h.size k.size, fun i hi hg => (k.block i (Nat.lt_of_lt_of_le hi h.size) (fun hm => by rcases hs i hm with h | h; exact hg h; omega)).trans (h.block i hi hg)⟩
theorem Fr.same {S : List Nat} {a b c : World} (h : Fr S a b) (k : Fr S b c) : Fr S a c := h.trans k fun _ hi => .inl hi
theorem Fr.mono {S S' : List Nat} {a b : World} (h : Fr S a b) (hs : ∀ i ∈ S, i ∈ S') : Fr S' a b := ⟨h.os, h.tape, h.output, h.size, fun k hk hn => h.block k hk (fun hm => hn (hs k hm))⟩
theorem Fr.alloc {S : List Nat} {a w : World} (h : Fr S a w) (o : Obj) : Fr S a (w.alloc o) :=
  h.same ⟨rfl, rfl, rfl, by simp, fun k hk _ => Below.heap_alloc _ _ _ hk⟩
theorem Fr.setCell {S : List Nat} {a w : World} (h : Fr S a w) (p : Addr) (hp : p.block ∈ S ∨ a.heap.size ≤ p.block) (u : Value) : Fr S a (w.setCell p u) := by
  refine ⟨h.os, h.tape, h.output, by simpa [World.setCell] using h.size, fun k hk hg => ?_⟩
  rw [Below.heap_setCell _ _ _ _ (by rintro rfl; rcases hp with hp | hp; exact hg hp; omega)]
  exact h.block k hk hg
theorem Fr.below {S : List Nat} {w w' : World} (h : Below w.heap.size w w') : Fr S w w' := ⟨h.os, h.tape, h.output, h.size, fun k hk _ => h.block k hk⟩
theorem Fr.to_below {S : List Nat} {w0 w w' : World} (h : Below w0.heap.size w0 w) (hc : Fr S w w') (hg : ∀ i ∈ S, w0.heap.size ≤ i) : Below w0.heap.size w0 w' :=
  h.trans ⟨hc.os, hc.tape, hc.output, hc.size, fun k hk => hc.block k (by have := h.size; omega) (fun hm => by have := hg k hm; omega)⟩
theorem Fr.drew {S : List Nat} {a w : World} (h : Fr S a w) : Fr S a w.drew := ⟨h.os, h.tape, h.output, h.size, h.block⟩
theorem Fr.grown {S : List Nat} {a w w' : World} {row : Option Nat} (h : Fr S a w) (hg : w.grownBy w' row) (hr : ∀ i, row = some i → i ∈ S ∨ a.heap.size ≤ i) : Fr S a w' :=
  ⟨hg.os.trans h.os, hg.tape.trans h.tape, hg.output.trans h.output, Nat.le_trans h.size hg.size, fun k hk hn => (hg.block k (Nat.lt_of_lt_of_le hk h.size) (by rintro rfl; rcases hr k rfl with h | h; exact hn h; omega)).trans (h.block k hk hn)⟩
theorem Fr.turned {S : List Nat} {a w w' : World} {b : Nat} (h : Fr S a w) (hg : w.mapTurned w' b) (hr : b ∈ S ∨ a.heap.size ≤ b) : Fr S a w' := h.grown hg.grown (fun i hi => by cases hi; exact hr)

def goodRoom (room : Int) : Bool := decide (1 ≤ room) && decide (room ≤ 16777216)

end Go.Proofs.YtnhcbampojpgfaaGreat.Dk
