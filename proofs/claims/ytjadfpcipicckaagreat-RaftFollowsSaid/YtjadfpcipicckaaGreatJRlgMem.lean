/-
  Several texts in one: Layer 8 in memory: entries with where their bytes lie, slices of entries that can be read, rows of entries of a call's own, blocks. Conditions: as each theorem states. Layer 8: the program's log, what only looks at it: First, Last, Committed, Applied, place, Term, lastTerm, validIndex, has. Conditions: the log lies in memory as it was made.
-/
import Derived.Test.YtjadfpcipicckaaGreatJFieldMath
import Derived.Test.YtjadfpcipicckaaGreatJElMath
import Derived.Lib.SliceRun
import Derived.Deep.QuietTactic
import Derived.BigQuiet
import Derived.Deep.RegionLaw
import Derived.Deep.RegionWith
import Derived.Deep.RegionHeld3
namespace Go.Proofs.YtjadfpcipicckaaGreat.Rg
open Go.RowKit Go.Proofs.YtjadfpcipicckaaGreat.Fld
set_option linter.unusedVariables false

def Still (w w' : World) : Prop := w'.heap = w.heap ∧ w'.os = w.os ∧ w'.tape = w.tape ∧ w'.output = w.output
theorem Still.refl (w : World) : Still w w := ⟨rfl, rfl, rfl, rfl⟩
theorem Still.trans {a b c : World} (h : Still a b) (k : Still b c) : Still a c := ⟨k.1.trans h.1, k.2.1.trans h.2.1, k.2.2.1.trans h.2.2.1, k.2.2.2.trans h.2.2.2⟩
theorem Still.drew {a b : World} (h : Still a b) : Still a b.drew := h
theorem Still.drewN {a b : World} (h : Still a b) (n : Nat) : Still a (b.drewN n) := by
  exact h
theorem Still.cell {w w' : World} (h : Still w w') (a : Addr) : w'.cell? a = w.cell? a := by
  unfold World.cell?
  rw [h.1]
theorem Still.sl {w w' : World} {A : Option Addr} {n cap : Nat} {zs : List Int} (hs : Sl w A n cap zs) (h : Still w w') : Sl w' A n cap zs := ⟨hs.1.of_same fun a _ _ => h.cell a, hs.2⟩
theorem alloc_below' (w : World) (o : Obj) : Below w.heap.size w (w.alloc o) := (Below.refl _ _).alloc (Nat.le_refl _) o
/-- a block's cells -/
def Blk (w : World) (B : Nat) (cs : Array Value) (ty : TypeId) : Prop := w.heap[B]? = some (.cells cs ty (0, 0))
theorem Blk.cell {w : World} {B : Nat} {cs : Array Value} {ty : TypeId} (h : Blk w B cs ty) (i : Nat) (v : Value) (hv : cs[i]? = some v) : w.cell? ⟨B, i, none⟩ = some v := by rw [cell_of_row w B i _ _ (0, 0) h]; exact hv
theorem Blk.free {w : World} {B : Nat} {cs : Array Value} {ty : TypeId} (h : Blk w B cs ty) (i : Nat) : w.frozen? ⟨B, i, none⟩ = false := frozen_of_row w B i _ _ h
theorem Blk.lt {w : World} {B : Nat} {cs : Array Value} {ty : TypeId} (h : Blk w B cs ty) : B < w.heap.size := by
  rcases Nat.lt_or_ge B w.heap.size with h' | h'
  · exact h'
  · unfold Blk at h; rw [Array.getElem?_eq_none h'] at h; cases h
theorem Blk.of {w w' : World} {B : Nat} {cs : Array Value} {ty : TypeId} (h : Blk w B cs ty) (hb : w'.heap[B]? = w.heap[B]?) : Blk w' B cs ty := hb.trans h
theorem Blk.below {w w' : World} {B : Nat} {cs : Array Value} {ty : TypeId} (h : Blk w B cs ty) (hb : Below w.heap.size w w') : Blk w' B cs ty := h.of (hb.block B h.lt)
theorem Blk.new (w : World) (cs : Array Value) (ty : TypeId) : Blk (w.alloc (.cells cs ty)) w.heap.size cs ty := heap_alloc_new w _
theorem Blk.past {w : World} {B : Nat} {cs : Array Value} {ty : TypeId} (h : Blk w B cs ty) (o : Obj) : Blk (w.alloc o) B cs ty := h.of (Below.heap_alloc _ _ _ h.lt)
theorem Blk.set {w : World} {B : Nat} {cs : Array Value} {ty : TypeId} (h : Blk w B cs ty) (i : Nat) (v : Value) (hi : i < cs.size) : Blk (w.setCell ⟨B, i, none⟩ v) B (cs.setIfInBounds i v) ty := heap_setCell_same w B i _ _ _ h
theorem Blk.far {w : World} {B : Nat} {cs : Array Value} {ty : TypeId} (h : Blk w B cs ty) (p : Addr) (hp : p.block ≠ B) (v : Value) : Blk (w.setCell p v) B cs ty := h.of (Below.heap_setCell _ _ _ _ (Ne.symm hp))
theorem Blk.still {w w' : World} {B : Nat} {cs : Array Value} {ty : TypeId} (h : Blk w B cs ty) (hs : Still w w') : Blk w' B cs ty := h.of (by rw [hs.1])
theorem fr_still {S : List Nat} {w w' : World} (h : Still w w') : Dk.Fr S w w' := ⟨h.2.1, h.2.2.1, h.2.2.2, by rw [h.1]; exact Nat.le_refl _, fun k _ _ => by rw [h.1]⟩
theorem below_still {n : Nat} {w w' : World} (h : Still w w') (hn : n ≤ w.heap.size) : Below n w w' := ⟨h.2.1, h.2.2.1, h.2.2.2, by rw [h.1]; exact Nat.le_refl _, fun k _ => by rw [h.1]⟩

/-- an entry, and where its bytes lie -/
structure EA where
  e : En
  A : Option Addr
  cap : Nat
def EA.cells (x : EA) : List Value := [.int .i64 x.e.idx, .int .i64 x.e.term, .int .i64 x.e.kind, .slice x.A x.e.data.length x.cap]
def EA.val (x : EA) : Value := .agg #[.int .i64 x.e.idx, .int .i64 x.e.term, .int .i64 x.e.kind, .slice x.A x.e.data.length x.cap]
def ea0 : EA := ⟨en0, none, 0⟩
def rowE (xs : List EA) : List Value := xs.flatMap EA.cells
def ens (xs : List EA) : List En := xs.map EA.e
theorem ens_len (xs : List EA) : (ens xs).length = xs.length := by simp [ens]
theorem ens_append (a b : List EA) : ens (a ++ b) = ens a ++ ens b := by simp [ens]
theorem ens_take (a : List EA) (k : Nat) : ens (a.take k) = (ens a).take k := by simp [ens, List.map_take]
theorem ens_drop (a : List EA) (k : Nat) : ens (a.drop k) = (ens a).drop k := by simp [ens, List.map_drop]
theorem ens_at (a : List EA) (k : Nat) (h : k < a.length) : (ens a).getD k en0 = (a.getD k ea0).e := by simp [ens, h]
theorem rowE_append (a b : List EA) : rowE (a ++ b) = rowE a ++ rowE b := by simp [rowE]
theorem rowE_len (a : List EA) : (rowE a).length = a.length * 4 := by
  induction a with
  | nil => rfl
  | cons x a ih => unfold rowE at *; rw [List.flatMap_cons, List.length_append, ih, List.length_cons]; show 4 + _ = _; omega
theorem rowE_take : ∀ (a : List EA) (k : Nat), rowE (a.take k) = (rowE a).take (k * 4)
  | [], k => by simp [rowE]
  | x :: a, 0 => by simp [rowE]
  | x :: a, k + 1 => by
    have ih := rowE_take a k
    unfold rowE at *
    rw [List.take_succ_cons, List.flatMap_cons, List.flatMap_cons, ih, List.take_append]
    have : x.cells.length = 4 := rfl
    rw [this, show (k + 1) * 4 - 4 = k * 4 by omega, List.take_of_length_le (l := x.cells) (by rw [this]; omega)]
theorem rowE_drop (a : List EA) (k : Nat) : rowE (a.drop k) = (rowE a).drop (k * 4) := by
  rcases Nat.lt_or_ge a.length k with h | h
  · rw [List.drop_eq_nil_of_le (by omega), List.drop_eq_nil_of_le (by rw [rowE_len]; omega)]; rfl
  · have h1 : rowE a = rowE (a.take k) ++ rowE (a.drop k) := by rw [← rowE_append, List.take_append_drop]
    have h2 : (rowE (a.take k)).length = k * 4 := by rw [rowE_len, List.length_take, Nat.min_eq_left h]
    rw [h1, ← h2, List.drop_left]
theorem rowE_at (a : List EA) (k j : Nat) (h : k < a.length) (hj : j < 4) : (rowE a)[k * 4 + j]? = (a.getD k ea0).cells[j]? := by
  have h1 := rowE_drop a k
  rw [List.drop_eq_getElem_cons h] at h1
  have h2 : ((rowE a).drop (k * 4))[j]? = (rowE a)[k * 4 + j]? := by rw [List.getElem?_drop]
  rw [← h2, ← h1]
  unfold rowE
  have hl : a[k].cells.length = 4 := rfl
  rw [List.flatMap_cons, List.getElem?_append_left (by omega), List.getD_eq_getElem?_getD, List.getElem?_eq_getElem h]
  rfl
theorem rowE_one (a : List EA) : ∀ u ∈ rowE a, u.oneCell' = true := by
  intro u hu
  simp only [rowE, List.mem_flatMap] at hu
  obtain ⟨x, _, hx⟩ := hu
  simp [EA.cells] at hx
  rcases hx with rfl | rfl | rfl | rfl <;> rfl
/-- the entries' bytes can be read -/
def Dat (w : World) (xs : List EA) : Prop := ∀ x ∈ xs, Rd w x.A x.e.data.length x.e.data ∧ (x.A = none → x.cap = 0)
theorem Dat.take {w : World} {xs : List EA} (h : Dat w xs) (k : Nat) : Dat w (xs.take k) := fun x hx => h x (List.mem_of_mem_take hx)
theorem Dat.drop {w : World} {xs : List EA} (h : Dat w xs) (k : Nat) : Dat w (xs.drop k) := fun x hx => h x (List.mem_of_mem_drop hx)
theorem Dat.append {w : World} {a b : List EA} (h : Dat w a) (h' : Dat w b) : Dat w (a ++ b) := fun x hx => (List.mem_append.1 hx).elim (h x) (h' x)
theorem Dat.below {w w' : World} {xs : List EA} (h : Dat w xs) (hb : Below w.heap.size w w') : Dat w' xs := fun x hx => ⟨(h x hx).1.below hb, (h x hx).2⟩
/-- a slice of entries that can be read -/
structure RdE (w : World) (A : Option Addr) (n : Nat) (xs : List EA) : Prop where
  len : xs.length = n
  most : n ≤ maxLen
  at' : 0 < n → ∃ b off, A = some ⟨b, off, none⟩ ∧ ∀ j v, (rowE xs)[j]? = some v → w.cell? ⟨b, off + j, none⟩ = some v
  dat : Dat w xs
theorem RdE.below {w w' : World} {A : Option Addr} {n : Nat} {xs : List EA} (h : RdE w A n xs) (hb : Below w.heap.size w w') : RdE w' A n xs :=
  ⟨h.len, h.most, fun hn => by
    obtain ⟨b, off, hA, hc⟩ := h.at' hn
    exact ⟨b, off, hA, fun j v hj => (hb.cell (lt_of_cell (hc j v hj))).trans (hc j v hj)⟩, h.dat.below hb⟩
theorem RdE.still {w w' : World} {A : Option Addr} {n : Nat} {xs : List EA} (h : RdE w A n xs) (hs : Still w w') : RdE w' A n xs := h.below (below_still hs (Nat.le_refl _))
theorem RdE.elem {w : World} {A : Option Addr} {n : Nat} {xs : List EA} (h : RdE w A n xs) (k : Nat) (hk : k < n) : ∃ b off, A = some ⟨b, off, none⟩ ∧ w.cell? ⟨b, off + k * 4, none⟩ = some (.int .i64 (xs.getD k ea0).e.idx) ∧ w.cell? ⟨b, off + k * 4 + 1, none⟩ = some (.int .i64 (xs.getD k ea0).e.term) ∧ w.cell? ⟨b, off + k * 4 + 2, none⟩ = some (.int .i64 (xs.getD k ea0).e.kind) ∧ w.cell? ⟨b, off + k * 4 + 3, none⟩ = some (.slice (xs.getD k ea0).A (xs.getD k ea0).e.data.length (xs.getD k ea0).cap) := by
  obtain ⟨b, off, hA, hc⟩ := h.at' (by omega)
  have hl : k < xs.length := by have := h.len; omega
  refine ⟨b, off, hA, ?_, ?_, ?_, ?_⟩
  · have := hc (k * 4 + 0) _ (rowE_at xs k 0 hl (by omega)); exact this
  · have := hc (k * 4 + 1) _ (rowE_at xs k 1 hl (by omega)); rw [← Nat.add_assoc] at this; exact this
  · have := hc (k * 4 + 2) _ (rowE_at xs k 2 hl (by omega)); rw [← Nat.add_assoc] at this; exact this
  · have := hc (k * 4 + 3) _ (rowE_at xs k 3 hl (by omega)); rw [← Nat.add_assoc] at this; exact this
theorem RdE.mem {w : World} {A : Option Addr} {n : Nat} {xs : List EA} (h : RdE w A n xs) (k : Nat) (hk : k < n) : xs.getD k ea0 ∈ xs := by
  have hl : k < xs.length := by have := h.len; omega
  rw [List.getD_eq_getElem?_getD, List.getElem?_eq_getElem hl]; exact List.getElem_mem _
theorem RdE.data {w : World} {A : Option Addr} {n : Nat} {xs : List EA} (h : RdE w A n xs) (k : Nat) (hk : k < n) : Rd w (xs.getD k ea0).A (xs.getD k ea0).e.data.length (xs.getD k ea0).e.data ∧ ((xs.getD k ea0).A = none → (xs.getD k ea0).cap = 0) := h.dat _ (h.mem k hk)
theorem RdE.nil (w : World) (A : Option Addr) : RdE w A 0 [] := ⟨rfl, by unfold maxLen; omega, fun h => by omega, fun x hx => by simp at hx⟩

/-! ### rows of a call's own -/
theorem entry_info : ∃ i, Tryz.prog.info? 67 = some i ∧ i.zero = some (.agg #[.int .i64 0, .int .i64 0, .int .i64 0, .slice none 0 0]) ∧ i.size = 4 ∧ i.bytes = 48 := by
  have h : (Tryz.prog.info? 67).map (fun i => (i.zero, i.size, i.bytes)) = some (some (.agg #[.int .i64 0, .int .i64 0, .int .i64 0, .slice none 0 0]), 4, 48) := by kernel_rfl
  cases hq : Tryz.prog.info? 67 with
  | none => simp [hq] at h
  | some i => simp [hq] at h; exact ⟨i, rfl, h⟩
theorem row_ne {w : World} {base size n B : Nat} {ety ty : TypeId} {v : Value} {xs : List Value} {cs : Array Value} (h : w.ownsRow base ety size v n xs) (hB : Blk w B cs ty) (ht : ety ≠ ty) : v.ownBlock ≠ some B := by
  intro he
  rcases h.2 with ⟨rfl, _⟩ | ⟨g, cap, cur, rfl, _, hg, _⟩
  · cases he
  · cases he
    unfold Blk at hB
    rw [hB] at hg
    cases hg
    exact ht rfl
theorem row_lo {w : World} {base size n : Nat} {ety : TypeId} {v : Value} {xs : List Value} (h : w.ownsRow base ety size v n xs) : ∀ i, v.ownBlock = some i → base ≤ i ∧ i < w.heap.size := by
  intro i he
  rcases h.2 with ⟨rfl, _⟩ | ⟨g, cap, cur, rfl, hg, hq, _⟩
  · cases he
  · cases he
    exact ⟨hg, (Array.getElem?_eq_some_iff.1 hq).1⟩
theorem row_of {w w' : World} {base size n : Nat} {ety : TypeId} {v : Value} {xs : List Value} (h : w.ownsRow base ety size v n xs) (hb : ∀ i, v.ownBlock = some i → w'.heap[i]? = w.heap[i]?) : w'.ownsRow base ety size v n xs := by
  obtain ⟨h1, h2⟩ := h
  refine ⟨h1, ?_⟩
  rcases h2 with h2 | ⟨q, cap, cur, hv, hg, hq, r⟩
  · exact .inl h2
  · exact .inr ⟨q, cap, cur, hv, hg, (hb q (by rw [hv]; rfl)).trans hq, r⟩
theorem row_lower {w : World} {base base' size n : Nat} {ety : TypeId} {v : Value} {xs : List Value} (h : w.ownsRow base ety size v n xs) (hb : base' ≤ base) : w.ownsRow base' ety size v n xs := by
  refine ⟨h.1, ?_⟩
  rcases h.2 with h | ⟨q, cap, cur, hv, hg, r⟩
  · exact .inl h
  · exact .inr ⟨q, cap, cur, hv, Nat.le_trans hb hg, r⟩
theorem row_slice {w : World} {base size n : Nat} {ety : TypeId} {v : Value} {xs : List Value} (h : w.ownsRow base ety size v n xs) : ∃ A cap, v = .slice A n cap ∧ (∀ a, A = some a → a.spot = none ∧ a.off = 0) ∧ n ≤ cap ∧ cap ≤ maxLen ∧ (A = none → cap = 0 ∧ n = 0) := by
  rcases h.2 with ⟨rfl, rfl⟩ | ⟨q, cap, cur, rfl, hg, hq, hn, hm, _⟩
  · exact ⟨none, 0, rfl, (fun a h => by cases h), by omega, by unfold maxLen; omega, fun _ => ⟨rfl, rfl⟩⟩
  · exact ⟨_, cap, rfl, (fun a h => by cases h; exact ⟨rfl, rfl⟩), hn, hm, fun h => by cases h⟩
theorem rows_ne {w : World} {base size n base' size' n' : Nat} {ety ety' : TypeId} {v v' : Value} {xs xs' : List Value} (h : w.ownsRow base ety size v n xs) (h' : w.ownsRow base' ety' size' v' n' xs') (ht : ety ≠ ety') : ∀ i, v.ownBlock = some i → v'.ownBlock ≠ some i := by
  intro i hi hi'
  rcases h.2 with ⟨rfl, _⟩ | ⟨g, cap, cur, rfl, _, hg, _⟩
  · cases hi
  · cases hi
    rcases h'.2 with ⟨rfl, _⟩ | ⟨g', cap', cur', rfl, _, hg', _⟩
    · cases hi'
    · cases hi'
      rw [hg] at hg'
      cases hg'
      exact ht rfl
theorem row_nil (w : World) (lo : Nat) (ety : TypeId) (size : Nat) : w.ownsRow lo ety size (.slice none 0 0) 0 [] := ⟨by simp, .inl ⟨rfl, rfl⟩⟩
/-- a row's cells -/
theorem row_cells {w : World} {lo n g cap : Nat} {ety : TypeId} {xs : List Value} (h : w.ownsRow lo ety 4 (.slice (some ⟨g, 0, none⟩) n cap) n xs) : ∀ j v, xs[j]? = some v → w.cell? ⟨g, j, none⟩ = some v ∧ w.frozen? ⟨g, j, none⟩ = false := by
  intro j v hj
  rcases h.2 with ⟨h, _⟩ | ⟨g', cap', cur, he, hg, hh, h4, h5, h6, h7⟩
  · cases h
  · injection he with e1 e2 e3
    injection e1 with e1
    injection e1 with e1
    subst e1 e3
    refine ⟨?_, frozen_of_row w g j cur _ hh⟩
    rw [cell_of_row w g j cur _ (0, 0) hh]
    rw [← h7, List.getElem?_take] at hj
    split at hj
    · rw [Array.getElem?_toList] at hj; exact hj
    · cases hj
/-- a row of entries can be read -/
theorem row_rdE {w : World} {lo n cap : Nat} {A : Option Addr} {xs : List EA} (h : w.ownsRow lo 67 4 (.slice A n cap) n (rowE xs)) (hd : Dat w xs) : RdE w A n xs := by
  have hl : xs.length = n := by have := h.1; rw [rowE_len] at this; omega
  refine ⟨hl, by obtain ⟨_, _, he, _, h1, h2, _⟩ := row_slice h; cases he; omega, fun hn => ?_, hd⟩
  rcases h.2 with ⟨h, h0⟩ | ⟨g', cap', cur, he, hg, hh, h4, h5, h6, h7⟩
  · omega
  · cases he
    refine ⟨g', 0, rfl, fun j v hj => ?_⟩
    rw [Nat.zero_add]
    exact (row_cells h j v hj).1
/-- a store into a row -/
theorem row_set {w : World} {lo n g cap : Nat} {ety : TypeId} {xs : List Value} (h : w.ownsRow lo ety 4 (.slice (some ⟨g, 0, none⟩) n cap) n xs) (j : Nat) (v : Value) : (w.setCell ⟨g, j, none⟩ v).ownsRow lo ety 4 (.slice (some ⟨g, 0, none⟩) n cap) n (xs.set j v) := by
  obtain ⟨hl, h⟩ := h
  rcases h with ⟨h, _⟩ | ⟨g', cap', cur, he, hg, hh, h4, h5, h6, h7⟩
  · cases h
  · injection he with e1 e2 e3
    injection e1 with e1
    injection e1 with e1
    subst e1 e3
    refine ⟨by rw [List.length_set]; exact hl, .inr ⟨g, cap, _, rfl, hg, heap_setCell_same w g j cur _ _ hh, h4, h5, by simpa using h6, ?_⟩⟩
    rw [Array.toList_setIfInBounds, List.take_set, h7]
/-- the entries' bytes lie in rows of their own -/
def DatO (lo : Nat) (w : World) (xs : List EA) : Prop := ∀ x ∈ xs, Bytes x.e.data ∧ w.ownsRow lo 5 1 (.slice x.A x.e.data.length x.cap) x.e.data.length (by8 x.e.data)
theorem DatO.of {lo : Nat} {w w' : World} {xs : List EA} (h : DatO lo w xs) (hb : ∀ x ∈ xs, ∀ i, (Value.slice x.A x.e.data.length x.cap).ownBlock = some i → w'.heap[i]? = w.heap[i]?) : DatO lo w' xs := fun x hx => ⟨(h x hx).1, row_of (h x hx).2 (hb x hx)⟩
theorem DatO.below {lo : Nat} {w w' : World} {xs : List EA} (h : DatO lo w xs) (hb : Below w.heap.size w w') : DatO lo w' xs := h.of fun x hx i hi => hb.block i (row_lo (h x hx).2 i hi).2
theorem DatO.take {lo : Nat} {w : World} {xs : List EA} (h : DatO lo w xs) (k : Nat) : DatO lo w (xs.take k) := fun x hx => h x (List.mem_of_mem_take hx)
theorem DatO.drop {lo : Nat} {w : World} {xs : List EA} (h : DatO lo w xs) (k : Nat) : DatO lo w (xs.drop k) := fun x hx => h x (List.mem_of_mem_drop hx)
theorem DatO.append {lo : Nat} {w : World} {a b : List EA} (h : DatO lo w a) (h' : DatO lo w b) : DatO lo w (a ++ b) := fun x hx => (List.mem_append.1 hx).elim (h x) (h' x)
theorem DatO.lower {lo lo' : Nat} {w : World} {xs : List EA} (h : DatO lo w xs) (hl : lo' ≤ lo) : DatO lo' w xs := fun x hx => ⟨(h x hx).1, row_lower (h x hx).2 hl⟩
theorem DatO.nil (lo : Nat) (w : World) : DatO lo w [] := fun x hx => by simp at hx
/-- a row of bytes can be read -/
theorem row_rd {w : World} {lo cap : Nat} {A : Option Addr} {d : List Int} (hb : Bytes d) (h : w.ownsRow lo 5 1 (.slice A d.length cap) d.length (by8 d)) : Rd w A d.length d ∧ (A = none → cap = 0) := by
  obtain ⟨hl, h⟩ := h
  rcases h with ⟨hv, h0⟩ | ⟨g, cap', cur, hv, hg, hh, hnc, hcm, hcs, hcu⟩
  · have hd : d = [] := List.eq_nil_of_length_eq_zero h0
    subst hd
    simp only [List.length_nil, Value.slice.injEq] at hv
    obtain ⟨rfl, _, rfl⟩ := hv
    exact ⟨Rd.nil w, fun _ => rfl⟩
  · simp only [Value.slice.injEq] at hv
    obtain ⟨rfl, _, rfl⟩ := hv
    refine ⟨⟨rfl, by omega, hb, fun hp => ⟨g, 0, rfl, fun i hi => ?_⟩⟩, (fun h => by cases h)⟩
    rw [Nat.zero_add, cell_of_row w g i cur _ (0, 0) hh, ← by8_at d i hi, ← hcu]
    rw [List.getElem?_take, if_pos (by omega), Array.getElem?_toList]
theorem DatO.dat {lo : Nat} {w : World} {xs : List EA} (h : DatO lo w xs) : Dat w xs := fun x hx => row_rd (h x hx).1 (h x hx).2
/-- bytes of a call's own do not lie in a row of entries, nor in a block of cells of another kind -/
theorem DatO.fr {lo : Nat} {S : List Nat} {w w' : World} {xs : List EA} (h : DatO lo w xs) (hf : Dk.Fr S w w') (hs : ∀ x ∈ xs, ∀ i, (Value.slice x.A x.e.data.length x.cap).ownBlock = some i → i ∉ S) : DatO lo w' xs := h.of fun x hx i hi => hf.block i (row_lo (h x hx).2 i hi).2 (hs x hx i hi)
end Go.Proofs.YtjadfpcipicckaaGreat.Rg

namespace Go.Proofs.YtjadfpcipicckaaGreat.Rg
open Go.RowKit Go.Proofs.YtjadfpcipicckaaGreat.Fld
set_option linter.unusedVariables false

/-- the fields of the program's log -/
def lgC (base bt : Int) (v : Value) (com app : Int) : Array Value := #[.int .i64 base, .int .i64 bt, v, .int .i64 com, .int .i64 app]
def Lb (w : World) (g : Nat) (base bt : Int) (v : Value) (com app : Int) : Prop := Blk w g (lgC base bt v com app) 96
theorem Lb.cells {w : World} {g : Nat} {base bt com app : Int} {v : Value} (h : Lb w g base bt v com app) : w.cell? ⟨g, 0, none⟩ = some (.int .i64 base) ∧ w.cell? ⟨g, 1, none⟩ = some (.int .i64 bt) ∧ w.cell? ⟨g, 2, none⟩ = some v ∧ w.cell? ⟨g, 3, none⟩ = some (.int .i64 com) ∧ w.cell? ⟨g, 4, none⟩ = some (.int .i64 app) :=
  ⟨Blk.cell h 0 _ rfl, Blk.cell h 1 _ rfl, Blk.cell h 2 _ rfl, Blk.cell h 3 _ rfl, Blk.cell h 4 _ rfl⟩
theorem Lb.still {w w' : World} {g : Nat} {base bt com app : Int} {v : Value} (h : Lb w g base bt v com app) (hs : Still w w') : Lb w' g base bt v com app := Blk.still h hs
theorem quiet_dr {P : Program} {f : FuncId} {args : Array Value} {W w : World} {v : Value} (hW : ∃ n, W = w.drewN n) (h : Calls P f args W fun e w' => e = .returned v ∧ ∃ m, w' = W.drewN m) : Calls P f args W fun e w'' => e = .returned v ∧ ∃ m, w'' = w.drewN m := by
  obtain ⟨n, rfl⟩ := hW
  exact h.mono fun _ _ ⟨he, m, hm⟩ => ⟨he, n + m, by rw [hm, World.drewN_drewN]⟩
theorem quiet_eq {P : Program} {f : FuncId} {args : Array Value} {W w : World} {v : Value} (hW : ∃ n, W = w.drewN n) (h : Calls P f args W fun e w' => e = .returned v ∧ W = w') : Calls P f args W fun e w'' => e = .returned v ∧ ∃ m, w'' = w.drewN m := by
  obtain ⟨n, rfl⟩ := hW
  exact h.mono fun _ _ ⟨he, hm⟩ => ⟨he, n, hm.symm⟩
theorem still_drewN (w : World) (n : Nat) : Still w (w.drewN n) := Still.drewN (Still.refl _) _

set_option maxRecDepth 100000 in
theorem first_any (g : Nat) (base bt com app : Int) (v : Value) (w : World) (h : Lb w g base bt v com app) (h0 : 0 ≤ base) (h1 : base ≤ 1099511627776) : Calls Tryz.prog 21 #[.pointer (some ⟨g, 0, none⟩)] w fun e w' => e = .returned (.int .i64 (base + 1)) ∧ w = w' := by
  obtain ⟨c0, c1, c2, c3, c4⟩ := h.cells
  clear h
  go_enter Tryz.func21, Tryz.ntmps21
  go_wp2
  go_ret
  exact ⟨rfl, rfl⟩
set_option maxRecDepth 100000 in
theorem committed_any (g : Nat) (base bt com app : Int) (v : Value) (w : World) (h : Lb w g base bt v com app) : Calls Tryz.prog 30 #[.pointer (some ⟨g, 0, none⟩)] w fun e w' => e = .returned (.int .i64 com) ∧ w = w' := by
  obtain ⟨c0, c1, c2, c3, c4⟩ := h.cells
  clear h
  go_enter Tryz.func30, Tryz.ntmps30
  go_wp2
  go_ret
  exact ⟨rfl, rfl⟩
set_option maxRecDepth 100000 in
theorem last_dr (g : Nat) (base bt com app : Int) (A : Option Addr) (n cap : Nat) (w : World) (h : Lb w g base bt (.slice A n cap) com app) (h0 : 0 ≤ base) (h1 : base + n ≤ 1099511627776) : Calls Tryz.prog 22 #[.pointer (some ⟨g, 0, none⟩)] w fun e w' => e = .returned (.int .i64 (base + n)) ∧ ∃ m, w' = w.drewN m := by
  obtain ⟨c0, c1, c2, c3, c4⟩ := h.cells
  have e2 : wrap64 (base + (n : Int)) = base + (n : Int) := by unfold wrap64; omega
  clear h
  go_enter Tryz.func22, Tryz.ntmps22
  go_wp2_with fail
  go_quiet (fail)
  go_wp2
  go_ret
  exact ⟨rfl, _, rfl⟩
set_option maxRecDepth 100000 in
theorem place_any (g : Nat) (base bt com app : Int) (v : Value) (i : Int) (w : World) (h : Lb w g base bt v com app) (h0 : 0 ≤ base) (h1 : base ≤ 1099511627776) (hi : base < i) (hi2 : i ≤ 1099511627776) : Calls Tryz.prog 83 #[.pointer (some ⟨g, 0, none⟩), .int .i64 i] w fun e w' => e = .returned (.int .i64 (i - base - 1)) ∧ w = w' := by
  obtain ⟨c0, c1, c2, c3, c4⟩ := h.cells
  clear h
  go_enter Tryz.func83, Tryz.ntmps83
  go_wp2
  go_ret
  exact ⟨rfl, rfl⟩
set_option maxRecDepth 100000 in
set_option maxHeartbeats 1600000 in
/-- Term: what it tells, of the cells -/
theorem term_dr (g : Nat) (base bt com app i : Int) (A : Option Addr) (n cap : Nat) (xs : List EA) (w : World) (h : Lb w g base bt (.slice A n cap) com app) (hr : RdE w A n xs) (h0 : 0 ≤ base) (h1 : base + n ≤ 1099511627776) :
    Calls Tryz.prog 61 #[.pointer (some ⟨g, 0, none⟩), .int .i64 i] w fun e w' => e = .returned (.tuple #[.int .i64 (termV ⟨base, bt, ens xs, com, app⟩ i), .bool (termB ⟨base, bt, ens xs, com, app⟩ i)]) ∧ ∃ m, w' = w.drewN m := by
  have hl := hr.len
  have HLA := Lib.hid (last_dr g base bt com app A n cap w h h0 h1)
  have HPL := Lib.hid (fun hi hi2 => place_any g base bt com app (.slice A n cap) i w h h0 (by omega) hi hi2)
  obtain ⟨c0, c1, c2, c3, c4⟩ := h.cells
  have HH := Lib.hid h
  clear h
  by_cases ha : i < base
  · have hb : termB ⟨base, bt, ens xs, com, app⟩ i = false := by simp [termB]; omega
    have hv : termV ⟨base, bt, ens xs, com, app⟩ i = 0 := by unfold termV; rw [hb]; rfl
    rw [hb, hv]
    clear hb hv hl hr
    go_enter Tryz.func61, Tryz.ntmps61
    go_wp2
    go_ret2
    exact ⟨rfl, 0, rfl⟩
  by_cases hb : base + n < i
  · have hbb : termB ⟨base, bt, ens xs, com, app⟩ i = false := by simp [termB, St.last, ens_len]; omega
    have hv : termV ⟨base, bt, ens xs, com, app⟩ i = 0 := by unfold termV; rw [hbb]; rfl
    rw [hbb, hv]
    clear hbb hv hl hr
    go_enter Tryz.func61, Tryz.ntmps61
    go_wp2_with fail
    refine HLA.out.mono ?_
    rintro e w' ⟨rfl, m, rfl⟩
    go_wp2
    go_ret2
    exact ⟨rfl, _, rfl⟩
  have hbb : termB ⟨base, bt, ens xs, com, app⟩ i = true := by simp [termB, St.last, ens_len]; omega
  have hv : termV ⟨base, bt, ens xs, com, app⟩ i = entT ⟨base, bt, ens xs, com, app⟩ (i - base).toNat := by unfold termV; rw [if_pos hbb]
  rw [hbb, hv]
  clear hbb hv
  by_cases hc : i = base
  · subst hc
    have he : entT ⟨i, bt, ens xs, com, app⟩ (i - i).toNat = bt := by unfold entT; rw [if_pos (by omega)]
    rw [he]
    clear he hl hr
    go_enter Tryz.func61, Tryz.ntmps61
    go_wp2_with fail
    refine HLA.out.mono ?_
    rintro e w' ⟨rfl, m, rfl⟩
    go_wp2
    go_ret2
    exact ⟨rfl, _, rfl⟩
  · obtain ⟨k, hk⟩ : ∃ k : Nat, i = base + 1 + k := ⟨(i - base - 1).toNat, by omega⟩
    have hkn : k < n := by omega
    have he : entT ⟨base, bt, ens xs, com, app⟩ (i - base).toNat = (xs.getD k ea0).e.term := by
      unfold entT
      rw [if_neg (by omega), show (i - base).toNat - 1 = k by omega]
      simp only
      rw [ens_at _ _ (by omega)]
    rw [he]
    obtain ⟨b, off, rfl, q0, q1, q2, q3⟩ := hr.elem k hkn
    clear he hr
    generalize (xs.getD k ea0).e.term = T at *
    clear q0 q2 q3
    have hcn : ¬ base = i := fun h => hc h.symm
    have hd : i - base - 1 = (k : Int) := by omega
    have g0 : (0 : Int) ≤ (k : Int) := by omega
    have g1 : (k : Int) < (n : Int) := by omega
    have HP2 := Lib.hid (fun W (hW : Lb W g base bt (.slice (some ⟨b, off, none⟩) n cap) com app) => place_any g base bt com app (.slice (some ⟨b, off, none⟩) n cap) i W hW h0 (by omega) (by omega) (by omega))
    rw [hd] at HP2
    clear hk hd
    clear HPL
    go_enter Tryz.func61, Tryz.ntmps61
    go_wp2_with fail
    refine HLA.out.mono ?_
    rintro e w1 ⟨rfl, hm⟩
    have HM := Lib.hid hm
    have HS := Lib.hid (show Still w w1 by obtain ⟨m, rfl⟩ := hm; exact still_drewN _ _)
    clear hm
    obtain ⟨d0, d1, d2, d3, d4⟩ := (HH.out.still HS.out).cells
    have q1' := (HS.out.cell _).trans q1
    go_wp2_with fail
    go_quiet ((go_at_call 83; exact quiet_eq ⟨_, rfl⟩ (HP2.out _ (HH.out.still (HS.out.drewN _)))))
    go_wp2
    go_ret2
    obtain ⟨m, rfl⟩ := HM.out
    exact ⟨rfl, _, World.drewN_drewN _ _ _⟩
set_option maxRecDepth 100000 in
theorem lastTerm_dr (g : Nat) (base bt com app : Int) (A : Option Addr) (n cap : Nat) (xs : List EA) (w : World) (h : Lb w g base bt (.slice A n cap) com app) (hr : RdE w A n xs) (h0 : 0 ≤ base) (h1 : base + n ≤ 1099511627776) :
    Calls Tryz.prog 44 #[.pointer (some ⟨g, 0, none⟩)] w fun e w' => e = .returned (.int .i64 (lastT bt (ens xs))) ∧ ∃ m, w' = w.drewN m := by
  have HLA := Lib.hid (last_dr g base bt com app A n cap w h h0 h1)
  have HTE := Lib.hid (fun W (hs : Still w W) => term_dr g base bt com app (base + n) A n cap xs W (h.still hs) (hr.still hs) h0 h1)
  have he := (termV_last ⟨base, bt, ens xs, com, app⟩).2
  rw [show St.last ⟨base, bt, ens xs, com, app⟩ = base + n by simp only [St.last, ens_len, hr.len], show St.lt ⟨base, bt, ens xs, com, app⟩ = lastT bt (ens xs) from rfl] at he
  rw [he] at HTE
  clear he h hr
  generalize termB ⟨base, bt, ens xs, com, app⟩ (base + n) = B at *
  generalize lastT bt (ens xs) = T at *
  go_enter Tryz.func44, Tryz.ntmps44
  go_wp2_with fail
  refine HLA.out.mono ?_
  rintro e w' ⟨rfl, m, rfl⟩
  go_wp2_with fail
  refine (HTE.out _ (still_drewN _ _)).mono ?_
  rintro e w' ⟨rfl, m2, rfl⟩
  go_wp2
  go_ret
  exact ⟨rfl, _, rfl⟩
theorem validIndex_any (n : Int) (w : World) : Calls Tryz.prog 41 #[.int .i64 n] w fun e w' => e = .returned (.bool (okN n)) ∧ w = w' := by
  have he : okN n = (decide (0 ≤ n) && decide (n ≤ 1099511627776)) := rfl
  by_cases h0 : 0 ≤ n
  · by_cases h1 : n ≤ 1099511627776
    · rw [he, decide_eq_true h0, decide_eq_true h1]
      clear he
      go_enter Tryz.func41, Tryz.ntmps41
      go_wp2
      go_ret
      exact ⟨rfl, rfl⟩
    · have h2 : decide (n ≤ 1099511627776) = false := decide_eq_false h1
      rw [he, decide_eq_true h0, h2]
      clear he
      go_enter Tryz.func41, Tryz.ntmps41
      go_wp2
      go_ret
      exact ⟨rfl, rfl⟩
  · have h2 : decide (0 ≤ n) = false := decide_eq_false h0
    rw [he, h2]
    clear he
    go_enter Tryz.func41, Tryz.ntmps41
    go_wp2
    go_ret
    exact ⟨rfl, rfl⟩
end Go.Proofs.YtjadfpcipicckaaGreat.Rg
