/-
  Layer 7: blocks of a call's own beside a reader: how they are kept (Blk, Twos); a function that answers a struct and a number. Conditions: as each theorem states.
-/
import Derived.Test.YtejphnbhcabchaaFieldNum
namespace Go.Proofs.Ytejphnbhcabchaa.Kp
open Go.RowKit Go.Proofs.Ytejphnbhcabchaa.Fld
set_option linter.unusedVariables false

theorem alloc_below' (w : World) (o : Obj) : Below w.heap.size w (w.alloc o) := (Below.refl _ _).alloc (Nat.le_refl _) o
/-- a block's cells -/
def Blk (w : World) (B : Nat) (cs : Array Value) (ty : TypeId) : Prop := w.heap[B]? = some (.cells cs ty (0, 0))
theorem Blk.cell {w : World} {B : Nat} {cs : Array Value} {ty : TypeId} (h : Blk w B cs ty) (i : Nat) (v : Value) (hv : cs[i]? = some v) : w.cell? ⟨B, i, none⟩ = some v := by rw [cell_of_row w B i _ _ (0, 0) h]; exact hv
theorem Blk.free {w : World} {B : Nat} {cs : Array Value} {ty : TypeId} (h : Blk w B cs ty) (i : Nat) : w.frozen? ⟨B, i, none⟩ = false := frozen_of_row w B i _ _ h
theorem Blk.lt {w : World} {B : Nat} {cs : Array Value} {ty : TypeId} (h : Blk w B cs ty) : B < w.heap.size := by
  rcases Nat.lt_or_ge B w.heap.size with h' | h'
  · exact h'
  · unfold Blk at h; rw [Array.getElem?_eq_none h'] at h; cases h
theorem Blk.of {w w' : World} {B : Nat} {cs : Array Value} {ty : TypeId} (h : Blk w B cs ty) (hb : w'.heap[B]? = w.heap[B]?) : Blk w' B cs ty := hb.trans h
theorem Blk.chg {w w' : World} {B g : Nat} {cs : Array Value} {ty : TypeId} (h : Blk w B cs ty) (hc : Chg g w w') (hg : B ≠ g) : Blk w' B cs ty := h.of (hc.block B h.lt hg)
theorem Blk.below {w w' : World} {B : Nat} {cs : Array Value} {ty : TypeId} (h : Blk w B cs ty) (hb : Below w.heap.size w w') : Blk w' B cs ty := h.of (hb.block B h.lt)
theorem Blk.new (w : World) (cs : Array Value) (ty : TypeId) : Blk (w.alloc (.cells cs ty)) w.heap.size cs ty := heap_alloc_new w _
theorem Blk.past {w : World} {B : Nat} {cs : Array Value} {ty : TypeId} (h : Blk w B cs ty) (o : Obj) : Blk (w.alloc o) B cs ty := h.of (Below.heap_alloc _ _ _ h.lt)
theorem Blk.set {w : World} {B : Nat} {cs : Array Value} {ty : TypeId} (h : Blk w B cs ty) (i : Nat) (v : Value) (hi : i < cs.size) : Blk (w.setCell ⟨B, i, none⟩ v) B (cs.setIfInBounds i v) ty := heap_setCell_same w B i _ _ _ h
theorem Blk.far {w : World} {B : Nat} {cs : Array Value} {ty : TypeId} (h : Blk w B cs ty) (p : Addr) (hp : p.block ≠ B) (v : Value) : Blk (w.setCell p v) B cs ty := h.of (Below.heap_setCell _ _ _ _ (Ne.symm hp))

theorem Rdr.past {w : World} {g : Nat} {zs : List Int} {bad : Bool} (h : Rdr w g zs bad) (o : Obj) : Rdr (w.alloc o) g zs bad := h.below (alloc_below' w o)
theorem Rdr.far {w : World} {g : Nat} {zs : List Int} {bad : Bool} (h : Rdr w g zs bad) {B : Nat} {cs : Array Value} {ty : TypeId} (hb : Blk w B cs ty) (hg : B ≠ g) (i : Nat) (hi : ∀ c, cs[i]? ≠ some (.int .u8 c)) (v : Value) : Rdr (w.setCell ⟨B, i, none⟩ v) g zs bad := by
  obtain ⟨A, n, cap, h1, h2, h3⟩ := h
  refine ⟨A, n, cap, h1.other _ hg v, ⟨h2.1.of_same fun a c hc => ?_, h2.2⟩, h3⟩
  have hne : a ≠ ⟨B, i, none⟩ := by
    rintro rfl
    have := hb.cell i
    rw [cell_of_row w B i _ _ (0, 0) hb] at hc
    exact hi c hc
  exact World.cell?_setCell_other w _ _ _ (Ne.symm hne)
theorem Rd.far {w : World} {A : Option Addr} {n : Nat} {zs : List Int} (h : Rd w A n zs) {B : Nat} {cs : Array Value} {ty : TypeId} (hb : Blk w B cs ty) (i : Nat) (hi : ∀ c, cs[i]? ≠ some (.int .u8 c)) (v : Value) : Rd (w.setCell ⟨B, i, none⟩ v) A n zs := by
  refine h.of_same fun a c hc => ?_
  have hne : a ≠ ⟨B, i, none⟩ := by
    rintro rfl
    rw [cell_of_row w B i _ _ (0, 0) hb] at hc
    exact hi c hc
  exact World.cell?_setCell_other w _ _ _ (Ne.symm hne)
theorem Sl.far {w : World} {A : Option Addr} {n cap : Nat} {zs : List Int} (h : Sl w A n cap zs) {B : Nat} {cs : Array Value} {ty : TypeId} (hb : Blk w B cs ty) (i : Nat) (hi : ∀ c, cs[i]? ≠ some (.int .u8 c)) (v : Value) : Sl (w.setCell ⟨B, i, none⟩ v) A n cap zs := ⟨Rd.far h.1 hb i hi v, h.2⟩
/-- a block of the call's own, and the result's, behind one more reading -/
structure Twos (g : Nat) (w W : World) (q : List Int × Bool) (R C : Nat) (rs cs : Array Value) (tr tc : TypeId) : Prop where
  rd : Rdr W g q.1 q.2
  res : Blk W R rs tr
  own : Blk W C cs tc
  chg : Chg g w W
  r : w.heap.size ≤ R
  c : w.heap.size ≤ C
  ne : R ≠ C ∧ R ≠ g ∧ C ≠ g
theorem Twos.call {g : Nat} {w W W' : World} {q q' : List Int × Bool} {R C : Nat} {rs cs : Array Value} {tr tc : TypeId} (h : Twos g w W q R C rs cs tr tc) (hc : Chg g W W') (hr : Rdr W' g q'.1 q'.2) : Twos g w W' q' R C rs cs tr tc :=
  ⟨hr, h.res.chg hc h.ne.2.1, h.own.chg hc h.ne.2.2, h.chg.trans hc, h.r, h.c, h.ne⟩
theorem Twos.store {g : Nat} {w W : World} {q : List Int × Bool} {R C : Nat} {rs cs : Array Value} {tr tc : TypeId} (h : Twos g w W q R C rs cs tr tc) (i : Nat) (hi : i < cs.size) (hn : ∀ c, cs[i]? ≠ some (.int .u8 c)) (v : Value) : Twos g w (W.setCell ⟨C, i, none⟩ v) q R C rs (cs.setIfInBounds i v) tr tc :=
  ⟨Rdr.far h.rd h.own h.ne.2.2 i hn v, h.res.far _ (Ne.symm h.ne.1) v, h.own.set i v hi, h.chg.setCell _ (.inr h.c) v, h.r, h.c, h.ne⟩
theorem Twos.storeR {g : Nat} {w W : World} {q : List Int × Bool} {R C : Nat} {rs cs : Array Value} {tr tc : TypeId} (h : Twos g w W q R C rs cs tr tc) (i : Nat) (hi : i < rs.size) (hn : ∀ c, rs[i]? ≠ some (.int .u8 c)) (v : Value) : Twos g w (W.setCell ⟨R, i, none⟩ v) q R C (rs.setIfInBounds i v) cs tr tc :=
  ⟨Rdr.far h.rd h.res h.ne.2.1 i hn v, h.res.set i v hi, h.own.far _ h.ne.1 v, h.chg.setCell _ (.inr h.r) v, h.r, h.c, h.ne⟩
theorem results_two {P : Program} {fn : Func} {p u : Tmp} {ty : TypeId} (h : fn.results = #[.cell p ty, .tmp u]) (tmps : Array Value) (w : World) (g : Nat) (t : TypeId) (cs : Array Value) (fr : Nat × Nat) (d : TypeDesc)
    (hp : tmps.getD p undef = .pointer (some ⟨g, 0, none⟩)) (hg : w.heap[g]? = some (.cells cs t fr))
    (hu : P.underlying ty = some d) (hd : (match d with | .struct _ | .array _ _ => true | _ => false) = true) (hi : (P.info? ty).map (·.size) = some cs.size) :
    (results fn tmps).run P w = .ok (.tuple #[.agg cs, tmps.getD u undef]) w := by
  rw [results_cell_tmp h, hp]
  simp [asAddr, run_loadVar_row w g t ty cs fr d hg hu hd hi, Result.andThen]
theorem Twos.below {g : Nat} {w W : World} {q : List Int × Bool} {R C : Nat} {rs cs : Array Value} {tr tc : TypeId} (h : Twos g w W q R C rs cs tr tc) (hg : w.heap.size ≤ g) : Below w.heap.size w W :=
  ⟨h.chg.os, h.chg.tape, h.chg.output, h.chg.size, fun k hk => h.chg.block k hk (by omega)⟩
theorem and_far {w : World} {A : Option Addr} {n cap : Nat} {zs : List Int} (h : Rd w A n zs ∧ (A = none → cap = 0)) {B : Nat} {cs : Array Value} {ty : TypeId} (hb : Blk w B cs ty) (i : Nat) (hi : ∀ c, cs[i]? ≠ some (.int .u8 c)) (v : Value) : Rd (w.setCell ⟨B, i, none⟩ v) A n zs ∧ (A = none → cap = 0) := ⟨Rd.far h.1 hb i hi v, h.2⟩
end Go.Proofs.Ytejphnbhcabchaa.Kp
