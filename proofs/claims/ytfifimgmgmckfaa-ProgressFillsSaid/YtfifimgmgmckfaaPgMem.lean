/-
  Layer 11 in memory: a peer's block and its row of indices in flight. Conditions: as each theorem states.
-/
import Derived.Test.YtfifimgmgmckfaaPgMath
import Derived.Test.YtfifimgmgmckfaaQuBase
namespace Go.Proofs.Ytfifimgmgmckfaa.Pg
open Go.RowKit Go.Proofs.Ytfifimgmgmckfaa.Qu Go.Proofs.Ytfifimgmgmckfaa.Fld
set_option linter.unusedVariables false

/-- every block but g is as it was -/
def Far (g : Nat) (w w' : World) : Prop := w.heap.size ≤ w'.heap.size ∧ ∀ b, b ≠ g → b < w.heap.size → w'.heap[b]? = w.heap[b]?
theorem Far.set (w : World) (g i : Nat) (v : Value) : Far g w (w.setCell ⟨g, i, none⟩ v) := ⟨by simp [World.setCell], fun b hb _ => Below.heap_setCell _ _ _ _ hb⟩
theorem Far.below {g : Nat} {w w' : World} (h : Below w.heap.size w w') : Far g w w' := ⟨h.size, fun b _ hb => h.block b hb⟩
/-- the indices in flight -/
structure Fly (lo g : Nat) (w : World) (A : Option Addr) (cap : Nat) (l : List Int) : Prop where
  rd : RdI w A l.length l
  nil : A = none → cap = 0
  cm : cap ≤ maxLen
  lc : l.length ≤ cap
  pl : ∀ a, A = some a → a.spot = none ∧ lo ≤ a.block ∧ a.block ≠ g
  own : cap = l.length ∨ w.ownsRow lo 3 1 (.slice A l.length cap) l.length (vI l)
theorem Fly.emp (lo g : Nat) (w : World) : Fly lo g w none 0 [] := ⟨RdI.nil _ _, fun _ => rfl, by unfold maxLen; omega, Nat.le_refl _, fun a h => (by cases h), .inl rfl⟩
theorem Fly.far {lo g : Nat} {w w' : World} {A : Option Addr} {cap : Nat} {l : List Int} (h : Fly lo g w A cap l) (hf : Far g w w') : Fly lo g w' A cap l := by
  obtain ⟨h1, h2, h3, h4, h5, h6⟩ := h
  refine ⟨⟨h1.1, h1.2.1, fun hn => ?_⟩, h2, h3, h4, h5, ?_⟩
  · obtain ⟨b, off, rfl, hc⟩ := h1.2.2 hn
    refine ⟨b, off, rfl, fun i hi => ?_⟩
    exact (World.cell?_of_block (w := w) (hf.2 b (h5 _ rfl).2.2 (lt_of_cell (hc i hi)))).trans (hc i hi)
  · rcases h6 with h6 | ⟨e1, h6⟩
    · exact .inl h6
    · rcases h6 with h6 | ⟨g', c', cur, e, hg, hh, hr⟩
      · exact .inr ⟨e1, .inl h6⟩
      · refine .inr ⟨e1, .inr ⟨g', c', cur, e, hg, ?_, hr⟩⟩
        injection e with e
        have hne := (h5 _ e).2.2
        exact (hf.2 g' hne (Array.getElem?_eq_some_iff.1 hh).1).trans hh
/-- a row of the call's own that is not the peer's block -/
theorem Fly.of_row {lo g : Nat} {w : World} {v : Value} {l : List Int} (h : w.ownsRow lo 3 1 v l.length (vI l)) (hg : ∀ b, v.ownBlock = some b → b ≠ g) (hk : l.length ≤ 1000000) : ∃ A cap, v = .slice A l.length cap ∧ Fly lo g w A cap l := by
  obtain ⟨h1, h2⟩ := h
  rcases h2 with ⟨rfl, h0⟩ | ⟨b, cap, cur, rfl, hb, hh, hnc, hcm, hcs, hcu⟩
  · obtain rfl : l = [] := List.eq_nil_of_length_eq_zero h0
    exact ⟨_, _, rfl, Fly.emp _ _ _⟩
  · refine ⟨_, _, rfl, ⟨rfl, by unfold maxLen; omega, fun _ => ⟨b, 0, rfl, fun i hi => ?_⟩⟩, (fun h => by cases h), hcm, hnc, (fun a ha => by injection ha with ha; subst ha; exact ⟨rfl, hb, hg b rfl⟩), .inr ⟨h1, .inr ⟨b, cap, cur, rfl, hb, hh, hnc, hcm, hcs, hcu⟩⟩⟩
    rw [Nat.zero_add, cell_of_row w b i cur _ (0, 0) hh, ← vI_at l i hi, ← hcu, List.getElem?_take, if_pos (by omega), Array.getElem?_toList]
/-- where l[k:most:most] begins -/
def cutA (A : Option Addr) (len k : Nat) : Option Addr := match A with | none => none | some a => some (if len = k then a else ⟨a.block, a.off + k, none⟩)
theorem Fly.cut {lo g : Nat} {w : World} {A : Option Addr} {cap : Nat} {l : List Int} (h : Fly lo g w A cap l) (k : Nat) (hk : k ≤ l.length) : Fly lo g w (cutA A l.length k) (l.length - k) (l.drop k) := by
  obtain ⟨h1, h2, h3, h4, h5, h6⟩ := h
  have hl : (l.drop k).length = l.length - k := List.length_drop
  have hm := h1.2.1
  refine ⟨⟨rfl, by omega, fun hn => ?_⟩, ?_, by omega, by omega, ?_, .inl hl.symm⟩
  · obtain ⟨b, off, rfl, hc⟩ := h1.2.2 (by omega)
    refine ⟨b, off + k, by show some (if l.length = k then _ else _) = _; rw [if_neg (by omega)], fun i hi => ?_⟩
    rw [Nat.add_assoc, hc (k + i) (by omega), List.getD_eq_getElem?_getD, List.getD_eq_getElem?_getD, List.getElem?_drop]
  · intro hn
    cases A with
    | none => have := h2 rfl; omega
    | some a => simp [cutA] at hn
  · intro a ha
    cases A with
    | none => simp [cutA] at ha
    | some a0 =>
      have := h5 a0 rfl
      simp only [cutA, Option.some.injEq] at ha
      split at ha
      · subst ha; exact this
      · subst ha; exact ⟨rfl, this.2⟩
def ndC (s : St) (A : Option Addr) (cap : Nat) : Array Value := #[.int .i64 s.state, .int .i64 s.mt, .int .i64 s.nx, .int .i64 s.win, .bool s.wt, .slice A s.fl.length cap, .int .i64 s.sp]
structure ImA (lo : Nat) (w : World) (g : Nat) (s : St) (A : Option Addr) (cap : Nat) : Prop where
  base : lo ≤ g
  blk : Blk w g (ndC s A cap) 42
  fly : Fly lo g w A cap s.fl
def Im (lo : Nat) (w : World) (g : Nat) (s : St) : Prop := ∃ A cap, ImA lo w g s A cap
theorem ImA.cells {lo : Nat} {w : World} {g : Nat} {s : St} {A : Option Addr} {cap : Nat} (h : ImA lo w g s A cap) : w.cell? ⟨g, 0, none⟩ = some (.int .i64 s.state) ∧ w.cell? ⟨g, 1, none⟩ = some (.int .i64 s.mt) ∧ w.cell? ⟨g, 2, none⟩ = some (.int .i64 s.nx) ∧ w.cell? ⟨g, 3, none⟩ = some (.int .i64 s.win) ∧ w.cell? ⟨g, 4, none⟩ = some (.bool s.wt) ∧ w.cell? ⟨g, 5, none⟩ = some (.slice A s.fl.length cap) ∧ w.cell? ⟨g, 6, none⟩ = some (.int .i64 s.sp) :=
  ⟨Blk.cell h.blk 0 _ rfl, Blk.cell h.blk 1 _ rfl, Blk.cell h.blk 2 _ rfl, Blk.cell h.blk 3 _ rfl, Blk.cell h.blk 4 _ rfl, Blk.cell h.blk 5 _ rfl, Blk.cell h.blk 6 _ rfl⟩
theorem ImA.below {lo : Nat} {w w' : World} {g : Nat} {s : St} {A : Option Addr} {cap : Nat} (h : ImA lo w g s A cap) (hb : Below w.heap.size w w') : ImA lo w' g s A cap := ⟨h.base, h.blk.below hb, h.fly.far (Far.below hb)⟩
theorem Im.below {lo : Nat} {w w' : World} {g : Nat} {s : St} (h : Im lo w g s) (hb : Below w.heap.size w w') : Im lo w' g s := by
  obtain ⟨A, cap, h⟩ := h
  exact ⟨A, cap, h.below hb⟩
/-- a cell of the peer's block but for the slice is written -/
theorem ImA.set {lo : Nat} {w : World} {g : Nat} {s s' : St} {A : Option Addr} {cap : Nat} (h : ImA lo w g s A cap) (i : Nat) (v : Value) (hc : (ndC s A cap).setIfInBounds i v = ndC s' A cap) (hi : i < 7) (hl : s'.fl = s.fl) : ImA lo (w.setCell ⟨g, i, none⟩ v) g s' A cap :=
  ⟨h.base, by rw [← hc]; exact Blk.set h.blk i v hi, by rw [hl]; exact h.fly.far (Far.set _ _ _ _)⟩
/-- the slice is written -/
theorem ImA.put {lo : Nat} {w : World} {g : Nat} {s s' : St} {A A' : Option Addr} {cap cap' : Nat} (h : ImA lo w g s A cap) (hf : Fly lo g w A' cap' s'.fl) (hc : (ndC s A cap).setIfInBounds 5 (.slice A' s'.fl.length cap') = ndC s' A' cap') : ImA lo (w.setCell ⟨g, 5, none⟩ (.slice A' s'.fl.length cap')) g s' A' cap' :=
  ⟨h.base, by rw [← hc]; exact Blk.set h.blk 5 _ (by show 5 < 7; omega), hf.far (Far.set _ _ _ _)⟩
/-- what a call leaves of a peer -/
structure Did (lo : Nat) (w w' : World) (g : Nat) (s' : St) : Prop where
  im : Im lo w' g s'
  bel : Below lo w w'
  sz : lo ≤ w.heap.size
theorem ImA.size {lo : Nat} {w : World} {g : Nat} {s : St} {A : Option Addr} {cap : Nat} (h : ImA lo w g s A cap) : lo ≤ w.heap.size := Nat.le_trans h.base (Nat.le_of_lt h.blk.lt)
theorem Did.same {lo : Nat} {w w' : World} {g : Nat} {s : St} (h : Im lo w g s) (hb : Below w.heap.size w w') : Did lo w w' g s := by
  obtain ⟨A, cap, h⟩ := h
  exact ⟨⟨A, cap, h.below hb⟩, hb.mono h.size, h.size⟩
theorem Did.then {lo : Nat} {w w1 w' : World} {g : Nat} {s1 s' : St} (h : Did lo w w1 g s1) (k : Did lo w1 w' g s') : Did lo w w' g s' := ⟨k.im, h.bel.trans k.bel, h.sz⟩
theorem Did.to {lo : Nat} {w w1 w' : World} {g : Nat} {s1 : St} (h : Did lo w w1 g s1) (hb : Below w1.heap.size w1 w') : Did lo w w' g s1 := ⟨h.im.below hb, h.bel.trans (hb.mono (Nat.le_trans h.sz h.bel.size)), h.sz⟩
end Go.Proofs.Ytfifimgmgmckfaa.Pg
