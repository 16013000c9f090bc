/-
  Layer 6: what the program reads of a record's content: readInt, readEntry, decode. Conditions: the reader is one (Rdr); the content can be read.
-/
import Derived.Test.YtgmpdifggaggdaaGreatDoorJWalName
import Derived.Test.YtgmpdifggaggdaaGreatDoorJFieldCatch
namespace Go.Proofs.YtgmpdifggaggdaaGreatDoor.Wl
open Go.RowKit Go.Proofs.YtgmpdifggaggdaaGreatDoor.Fld
set_option linter.unusedVariables false

/-- a block's cells -/
def Blk (w : World) (B : Nat) (cs : Array Value) (ty : TypeId) : Prop := w.heap[B]? = some (.cells cs ty (0, 0))
theorem Blk.cell {w : World} {B : Nat} {cs : Array Value} {ty : TypeId} (h : Blk w B cs ty) (i : Nat) (v : Value) (hv : cs[i]? = some v) : w.cell? ⟨B, i, none⟩ = some v := by rw [cell_of_row w B i _ _ (0, 0) h]; exact hv
theorem Blk.free {w : World} {B : Nat} {cs : Array Value} {ty : TypeId} (h : Blk w B cs ty) (i : Nat) : w.frozen? ⟨B, i, none⟩ = false := frozen_of_row w B i _ _ h
theorem Blk.lt {w : World} {B : Nat} {cs : Array Value} {ty : TypeId} (h : Blk w B cs ty) : B < w.heap.size := by
  rcases Nat.lt_or_ge B w.heap.size with h' | h'
  · exact h'
  · unfold Blk at h; rw [Array.getElem?_eq_none h'] at h; cases h
theorem Blk.of {w w' : World} {B : Nat} {cs : Array Value} {ty : TypeId} (h : Blk w B cs ty) (hb : w'.heap[B]? = w.heap[B]?) : Blk w' B cs ty := hb.trans h
theorem Blk.chg {w w' : World} {B g : Nat} {cs : Array Value} {ty : TypeId} (h : Blk w B cs ty) (hc : Chg g w w') (hg : B ≠ g) : Blk w' B cs ty := h.of (hc.block B h.lt hg)
theorem Blk.below {w w' : World} {B : Nat} {cs : Array Value} {ty : TypeId} (h : Blk w B cs ty) (hb : Below w.heap.size w w') : Blk w' B cs ty := h.of (hb.block B h.lt)
theorem Blk.new (w : World) (cs : Array Value) (ty : TypeId) : Blk (w.alloc (.cells cs ty)) w.heap.size cs ty := heap_alloc_new w _
theorem Blk.past {w : World} {B : Nat} {cs : Array Value} {ty : TypeId} (h : Blk w B cs ty) (o : Obj) : Blk (w.alloc o) B cs ty := h.of (Below.heap_alloc _ _ _ h.lt)
theorem Blk.set {w : World} {B : Nat} {cs : Array Value} {ty : TypeId} (h : Blk w B cs ty) (i : Nat) (v : Value) (hi : i < cs.size) : Blk (w.setCell ⟨B, i, none⟩ v) B (cs.setIfInBounds i v) ty := heap_setCell_same w B i _ _ _ h
theorem Blk.far {w : World} {B : Nat} {cs : Array Value} {ty : TypeId} (h : Blk w B cs ty) (p : Addr) (hp : p.block ≠ B) (v : Value) : Blk (w.setCell p v) B cs ty := h.of (Below.heap_setCell _ _ _ _ (Ne.symm hp))

/-- a reader reads a number -/
def stI (q : List Int × Bool) (low high : Nat) : Nat × (List Int × Bool) := if q.2 then (0, q) else match rI q.1 low high with | some (n, r) => (n, (r, false)) | none => (0, (q.1, true))
def stT (q : List Int × Bool) (most : Nat) : List Int × (List Int × Bool) := if q.2 then ([], q) else match rT q.1 most with | some (t, r) => (t, (r, false)) | none => ([], (q.1, true))
theorem rint_any (g : Nat) (q : List Int × Bool) (w : World) (low high : Nat) (h : Rdr w g q.1 q.2) : Calls Tryz.prog 141 #[.pointer (some ⟨g, 0, none⟩), .int .i64 (low : Int), .int .i64 (high : Int)] w (Got g w (.int .i64 ((stI q low high).1 : Int)) (stI q low high).2.1 (stI q low high).2.2) := by
  obtain ⟨zs, bad⟩ := q
  unfold stI
  cases bad with
  | true => exact rint_bad g zs w true h _ _ (.inl rfl)
  | false =>
    simp only [Bool.false_eq_true, if_false]
    cases hc : cutInt zs with
    | none =>
      have : rI zs low high = none := by unfold rI; rw [hc]
      rw [this]
      exact rint_bad g zs w false h _ _ (.inr (.inl hc))
    | some vr =>
      obtain ⟨v, r⟩ := vr
      by_cases hb : (low : Int) ≤ v ∧ v ≤ (high : Int)
      · have : rI zs low high = some (v.toNat, r) := by unfold rI; rw [hc]; simp only; rw [if_pos hb]
        rw [this]
        simp only
        rw [Int.toNat_of_nonneg (by omega)]
        exact rint_ok g zs w h v r hc _ _ hb.1 hb.2
      · have : rI zs low high = none := by unfold rI; rw [hc]; simp only; rw [if_neg hb]
        rw [this]
        exact rint_bad g zs w false h _ _ (.inr (.inr ⟨v, r, hc, by omega⟩))
theorem rtext_any (g : Nat) (q : List Int × Bool) (w : World) (most : Nat) (h : Rdr w g q.1 q.2) : Calls Tryz.prog 142 #[.pointer (some ⟨g, 0, none⟩), .int .i64 (most : Int)] w (GotT g w (stT q most).1 (stT q most).2.1 (stT q most).2.2) := by
  obtain ⟨zs, bad⟩ := q
  have hbad : ∀ (e : Ending) (w' : World), Got g w (.slice none 0 0) zs true e w' → GotT g w [] zs true e w' := fun e w' h => ⟨none, 0, 0, h.1, Sl.nil w', h.2⟩
  unfold stT
  cases bad with
  | true => exact (rtext_bad g zs w true h _ (.inl rfl)).mono hbad
  | false =>
    simp only [Bool.false_eq_true, if_false]
    cases hc : cutText zs with
    | none =>
      have : rT zs most = none := by unfold rT; rw [hc]
      rw [this]
      exact (rtext_bad g zs w false h _ (.inr (.inl hc))).mono hbad
    | some vr =>
      obtain ⟨t, r⟩ := vr
      by_cases hb : t.length ≤ most
      · have : rT zs most = some (t, r) := by unfold rT; rw [hc]; simp only; rw [if_pos hb]
        rw [this]
        exact rtext_ok g zs w h t r hc _ (by omega)
      · have : rT zs most = none := by unfold rT; rw [hc]; simp only; rw [if_neg hb]
        rw [this]
        exact (rtext_bad g zs w false h _ (.inr (.inr ⟨t, r, hc, by omega⟩))).mono hbad
theorem stI_high (q : List Int × Bool) (low high : Nat) : (stI q low high).1 ≤ high := by
  unfold stI
  split
  · simp
  · split
    · exact (rI_ok (by assumption)).2
    · simp
set_option maxRecDepth 100000 in
theorem readInt_any (g : Nat) (q : List Int × Bool) (w : World) (low high : Nat) (hh : high ≤ 9223372036854775807) (h : Rdr w g q.1 q.2) : Calls Tryz.prog 119 #[.pointer (some ⟨g, 0, none⟩), .int .i64 (low : Int), .int .i64 (high : Int)] w (Got g w (.int .i64 ((stI q low high).1 : Int)) (stI q low high).2.1 (stI q low high).2.2) := by
  have HR := Lib.hid (rint_any g q w low high h)
  have hv := stI_high q low high
  clear h
  obtain ⟨v, hv2⟩ : ∃ v, (stI q low high).1 = v := ⟨_, rfl⟩
  rw [hv2] at HR hv ⊢
  have hv : v ≤ 9223372036854775807 := by omega
  go_enter Tryz.func119, Tryz.ntmps119
  go_wp2_with (go_at_call 141; refine HR.out.mono ?_; rintro e w' ⟨rfl, hc, hr⟩; have HC := Lib.hid hc; have HRR := Lib.hid hr; clear hc hr)
  go_ret
  exact ⟨rfl, HC.out, HRR.out⟩
end Go.Proofs.YtgmpdifggaggdaaGreatDoor.Wl
