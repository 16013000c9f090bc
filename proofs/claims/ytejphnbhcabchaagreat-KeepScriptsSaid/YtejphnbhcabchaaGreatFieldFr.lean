/-
  Inside a method of the reader: its variables in memory (Fr), and what becomes of them. Conditions: as each theorem states.
-/
import Derived.Test.YtejphnbhcabchaaGreatFieldRdr
namespace Go.Proofs.YtejphnbhcabchaaGreat.Fld
open Go.RowKit

/-- what was read, and the reader behind it -/
def Got (g : Nat) (w : World) (v : Value) (zs : List Int) (bad : Bool) (e : Ending) (w' : World) : Prop := e = .returned v ∧ Chg g w w' ∧ Rdr w' g zs bad
def NoByte (x : Value) : Prop := ∀ c, x ≠ .int .u8 c
/-- inside a method that began at w: its variable of the reader, its result's, the reader -/
def Fr (w W : World) (g : Nat) (x : Value) (A : Option Addr) (n cap : Nat) (bad : Bool) : Prop :=
  g < w.heap.size ∧ W.cell? ⟨w.heap.size, 0, none⟩ = some (.pointer (some ⟨g, 0, none⟩)) ∧ (∃ t, W.heap[w.heap.size + 1]? = some (.cells #[x] t (0, 0))) ∧ Two W g A n cap bad ∧ Chg g w W ∧ NoByte x
theorem Fr.cellM {w W : World} {g : Nat} {x : Value} {A : Option Addr} {n cap : Nat} {bad : Bool} (h : Fr w W g x A n cap bad) : W.cell? ⟨w.heap.size + 1, 0, none⟩ = some x ∧ W.frozen? ⟨w.heap.size + 1, 0, none⟩ = false := by
  obtain ⟨_, _, ⟨t, ht⟩, _⟩ := h
  exact ⟨by rw [cell_of_row W _ 0 _ _ (0, 0) ht]; rfl, frozen_of_row W _ 0 _ _ ht⟩
theorem Fr.start {w : World} {g : Nat} {A : Option Addr} {n cap : Nat} {bad : Bool} (h : Two w g A n cap bad) (x : Value) (hx : NoByte x) (t1 t2 : TypeId) : Fr w ((w.alloc (.cells #[.pointer (some ⟨g, 0, none⟩)] t1)).alloc (.cells #[x] t2)) g x A n cap bad := by
  have hb : Below w.heap.size w ((w.alloc (.cells #[.pointer (some ⟨g, 0, none⟩)] t1)).alloc (.cells #[x] t2)) := ((Below.refl _ _).alloc (Nat.le_refl _) _).alloc (by simp) _
  refine ⟨h.lt, by go_simp, ⟨t2, ?_⟩, h.below hb, Chg.below hb, hx⟩
  have := heap_alloc_new (w.alloc (.cells #[.pointer (some ⟨g, 0, none⟩)] t1)) (.cells #[x] t2)
  simpa using this
theorem Fr.still {w W W' : World} {g : Nat} {x : Value} {A : Option Addr} {n cap : Nat} {bad : Bool} (h : Fr w W g x A n cap bad) (hs : Still W W') : Fr w W' g x A n cap bad := by
  obtain ⟨h0, h1, ⟨t, h2⟩, h4, h5, h6⟩ := h
  exact ⟨h0, (hs.cell _).trans h1, ⟨t, by rw [hs.1]; exact h2⟩, h4.still hs, h5.still hs, h6⟩
theorem cell_other {w : World} {p q : Addr} {u : Value} (h : q.block ≠ p.block) : (w.setCell p u).cell? q = w.cell? q := World.cell?_of_block (w := w) (Below.heap_setCell w p u q.block h)
theorem Fr.setM {w W : World} {g : Nat} {x : Value} {A : Option Addr} {n cap : Nat} {bad : Bool} (h : Fr w W g x A n cap bad) (y : Value) (hy : NoByte y) : Fr w (W.setCell ⟨w.heap.size + 1, 0, none⟩ y) g y A n cap bad := by
  obtain ⟨h0, h1, ⟨t, h2⟩, h4, h5, _⟩ := h
  exact ⟨h0, (cell_other (by simp)).trans h1, ⟨t, heap_setCell_same W _ 0 _ _ _ h2⟩, h4.other _ (by simp; omega) _, h5.setCell _ (.inr (by simp)) _, hy⟩
theorem Fr.set0 {w W : World} {g : Nat} {x : Value} {A : Option Addr} {n cap : Nat} {bad : Bool} (h : Fr w W g x A n cap bad) (A' : Option Addr) (n' cap' : Nat) : Fr w (W.setCell ⟨g, 0, none⟩ (.slice A' n' cap')) g x A' n' cap' bad := by
  obtain ⟨h0, h1, ⟨t, h2⟩, h4, h5, h6⟩ := h
  exact ⟨h0, (cell_other (by simp; omega)).trans h1, ⟨t, (Below.heap_setCell _ _ _ _ (by simp; omega)).trans h2⟩, h4.set0 _ _ _, h5.setCell _ (.inl rfl) _, h6⟩
theorem Fr.set1 {w W : World} {g : Nat} {x : Value} {A : Option Addr} {n cap : Nat} {bad : Bool} (h : Fr w W g x A n cap bad) (bad' : Bool) : Fr w (W.setCell ⟨g, 1, none⟩ (.bool bad')) g x A n cap bad' := by
  obtain ⟨h0, h1, ⟨t, h2⟩, h4, h5, h6⟩ := h
  exact ⟨h0, (cell_other (by simp; omega)).trans h1, ⟨t, (Below.heap_setCell _ _ _ _ (by simp; omega)).trans h2⟩, h4.set1 _, h5.setCell _ (.inl rfl) _, h6⟩
theorem Fr.below {w W W' : World} {g : Nat} {x : Value} {A : Option Addr} {n cap : Nat} {bad : Bool} (h : Fr w W g x A n cap bad) (hb : Below W.heap.size W W') : Fr w W' g x A n cap bad := by
  obtain ⟨h0, h1, ⟨t, h2⟩, h4, h5, h6⟩ := h
  have lt : w.heap.size + 1 < W.heap.size := by
    rcases Nat.lt_or_ge (w.heap.size + 1) W.heap.size with h' | h'
    · exact h'
    · rw [Array.getElem?_eq_none h'] at h2; cases h2
  exact ⟨h0, (hb.cell (lt_of_cell h1)).trans h1, ⟨t, (hb.block _ lt).trans h2⟩, h4.below hb, h5.trans (Chg.below hb), h6⟩
/-- bytes don't lie in the method's variables, nor in the reader -/
theorem Fr.slM {w W : World} {g : Nat} {x : Value} {A : Option Addr} {n cap : Nat} {bad : Bool} (h : Fr w W g x A n cap bad) {A' : Option Addr} {n' cap' : Nat} {zs : List Int} (hs : Sl W A' n' cap' zs) (y : Value) : Sl (W.setCell ⟨w.heap.size + 1, 0, none⟩ y) A' n' cap' zs := by
  refine ⟨hs.1.of_same fun a c ha => cell_other ?_, hs.2⟩
  intro hab
  simp only at hab
  obtain ⟨_, _, ⟨t, ht⟩, _, _, hx⟩ := h
  unfold World.cell? at ha
  rw [hab, ht] at ha
  obtain ⟨b, off, sp⟩ := a
  rcases off with _ | off
  · cases sp
    · simp at ha; exact hx c ha
    · simp at ha
  · cases sp <;> simp at ha
theorem Fr.slG {w W : World} {g : Nat} {x : Value} {A : Option Addr} {n cap : Nat} {bad : Bool} (h : Fr w W g x A n cap bad) {A' : Option Addr} {n' cap' : Nat} {zs : List Int} (hs : Sl W A' n' cap' zs) (o : Nat) (y : Value) : Sl (W.setCell ⟨g, o, none⟩ y) A' n' cap' zs :=
  hs.chg ((Chg.refl g W).setCell _ (.inl rfl) _) h.2.2.2.1
theorem Fr.done {w W : World} {g : Nat} {x : Value} {A : Option Addr} {n cap : Nat} {bad : Bool} (h : Fr w W g x A n cap bad) {zs : List Int} (hs : Sl W A n cap zs) (hn : n ≤ 140737488355328) (v : Value) : Got g w v zs bad (.returned v) W := ⟨rfl, h.2.2.2.2.1, A, n, cap, h.2.2.2.1, hs, hn⟩
theorem cutNum_len (zs : List Int) (v : Nat) (r : List Int) (h : cutNum zs = some (v, r)) : r.length ≤ zs.length := by
  cases zs with
  | nil => simp [cutNum] at h
  | cons c rr =>
    rw [cutNum] at h
    split at h
    · simp only [Option.some.injEq, Prod.mk.injEq] at h
      rw [← h.2, List.length_drop, List.length_cons]; omega
    · cases h
theorem cutInt_len (zs : List Int) (v : Int) (r : List Int) (h : cutInt zs = some (v, r)) : r.length ≤ zs.length := by
  cases zs with
  | nil => simp [cutInt] at h
  | cons c rr =>
    rw [cutInt] at h
    split at h
    · split at h
      · simp only [Option.some.injEq, Prod.mk.injEq] at h
        rw [← h.2, List.length_drop, List.length_cons]; omega
      · cases h
    · split at h
      · simp only [Option.some.injEq, Prod.mk.injEq] at h
        rw [← h.2, List.length_drop, List.length_cons]; omega
      · cases h
theorem cutText_len (zs t r : List Int) (h : cutText zs = some (t, r)) : r.length ≤ zs.length ∧ t.length ≤ zs.length := by
  unfold cutText at h
  cases hc : cutNum zs with
  | none => rw [hc] at h; cases h
  | some q =>
    obtain ⟨m, rr⟩ := q
    have h0 := cutNum_len zs m rr hc
    rw [hc] at h
    simp only at h
    split at h
    · simp only [Option.some.injEq, Prod.mk.injEq] at h
      rw [← h.1, ← h.2, List.length_drop, List.length_take]; omega
    · cases h
end Go.Proofs.YtejphnbhcabchaaGreat.Fld
