/-
  Layer 10, the laws' world as it begins: its voters and logs, while there is no node. Conditions: as each theorem states.
-/
import Derived.Test.YtjajgjpkiofhmaaElOpw
import Derived.Test.YtjajgjpkiofhmaaElHw
namespace Go.Proofs.Ytjajgjpkiofhmaa.El
open Go.RowKit Go.Proofs.Ytjajgjpkiofhmaa.Qu Go.Proofs.Ytjajgjpkiofhmaa.Fld
set_option linter.unusedVariables false

theorem Wm.vote {w0 : World} {vs : List Int} {w W : World} {u : Wl} {d : Wd} (h : Wm w0 vs w u d) (h0 : d.ns.length = 0) {v : Value} {k : Int} (hr : W.ownsRow w0.heap.size 3 1 v (vs.length + 1) (vI vs ++ [.int .i64 k])) (hg : w.grownBy W u.vv.ownBlock) :
    Wm w0 (vs ++ [k]) (W.setCell ⟨u.g, 0, none⟩ v) { u with vv := v } d := by
  have hf : Dk.Fr (u.g :: u.vv.ownBlock.toList) w (W.setCell ⟨u.g, 0, none⟩ v) := ((Dk.Fr.refl _ w).grown hg (fun i hi => .inl (by simp [hi]))).setCell _ (.inl (by simp)) _
  have hB : Blk W u.g (wdC u) 61 := (hg.block _ (Blk.lt h.blk) (row_ne h.rv h.blk (by decide)).symm).trans h.blk
  have hvg : v.ownBlock ≠ some u.g := row_ne hr hB (by decide)
  refine ⟨Blk.set hB 0 v (by show 0 < 6; omega), ?_, row_fr h.rn hf fun i hi hm => ?_, row_fr h.rl hf fun i hi hm => ?_, row_fr h.rs hf fun i hi hm => ?_, row_fr h.rd hf fun i hi hm => ?_, h.pl, fun i hi => by omega, fun i hi => by omega, fun i hi => by omega, fun i j hi => by omega, h.gb, Dk.Fr.to_below h.bel hf fun x hm => ?_⟩
  · rw [List.length_append, vI_snoc]
    exact row_of hr fun i hi => Below.heap_setCell _ _ _ _ (fun e => hvg (by rw [hi, e]))
  · simp only [List.mem_cons, Option.mem_toList] at hm
    rcases hm with rfl | hm
    · exact row_ne h.rn h.blk (by decide) hi
    · exact rows_ne h.rn h.rv (by decide) i hi hm
  · simp only [List.mem_cons, Option.mem_toList] at hm
    rcases hm with rfl | hm
    · exact row_ne h.rl h.blk (by decide) hi
    · exact rows_ne h.rl h.rv (by decide) i hi hm
  · simp only [List.mem_cons, Option.mem_toList] at hm
    rcases hm with rfl | hm
    · exact row_ne h.rs h.blk (by decide) hi
    · exact rows_ne h.rs h.rv (by decide) i hi hm
  · simp only [List.mem_cons, Option.mem_toList] at hm
    rcases hm with rfl | hm
    · exact row_ne h.rd h.blk (by decide) hi
    · exact rows_ne h.rd h.rv (by decide) i hi hm
  · simp only [List.mem_cons, Option.mem_toList] at hm
    rcases hm with rfl | hm
    · exact h.gb
    · exact (row_lo h.rv x hm).1
theorem Wm.logs {w0 : World} {vs : List Int} {w W : World} {u : Wl} {d : Wd} (h : Wm w0 vs w u d) (h0 : d.ns.length = 0) {v : Value} {y : Int × Int} (hr : W.ownsRow w0.heap.size 38 2 v (d.logs.length + 1) (rowP d.logs ++ rowP [y])) (hg : w.grownBy W u.lv.ownBlock) :
    Wm w0 vs (W.setCell ⟨u.g, 3, none⟩ v) { u with lv := v } { d with logs := d.logs ++ [y] } := by
  have hf : Dk.Fr (u.g :: u.lv.ownBlock.toList) w (W.setCell ⟨u.g, 3, none⟩ v) := ((Dk.Fr.refl _ w).grown hg (fun i hi => .inl (by simp [hi]))).setCell _ (.inl (by simp)) _
  have hB : Blk W u.g (wdC u) 61 := (hg.block _ (Blk.lt h.blk) (row_ne h.rl h.blk (by decide)).symm).trans h.blk
  have hvg : v.ownBlock ≠ some u.g := row_ne hr hB (by decide)
  refine ⟨Blk.set hB 3 v (by show 3 < 6; omega), row_fr h.rv hf fun i hi hm => ?_, row_fr h.rn hf fun i hi hm => ?_, ?_, row_fr h.rs hf fun i hi hm => ?_, row_fr h.rd hf fun i hi hm => ?_, h.pl, fun i hi => (by have hi' : i < d.ns.length := hi; omega), fun i hi => (by have hi' : i < d.ns.length := hi; omega), fun i hi => (by have hi' : i < d.ns.length := hi; omega), fun i j hi => (by have hi' : i < d.ns.length := hi; omega), h.gb, Dk.Fr.to_below h.bel hf fun x hm => ?_⟩
  · simp only [List.mem_cons, Option.mem_toList] at hm
    rcases hm with rfl | hm
    · exact row_ne h.rv h.blk (by decide) hi
    · exact rows_ne h.rv h.rl (by decide) i hi hm
  · simp only [List.mem_cons, Option.mem_toList] at hm
    rcases hm with rfl | hm
    · exact row_ne h.rn h.blk (by decide) hi
    · exact rows_ne h.rn h.rl (by decide) i hi hm
  · rw [List.length_append, rowP_append]
    exact row_of hr fun i hi => Below.heap_setCell _ _ _ _ (fun e => hvg (by rw [hi, e]))
  · simp only [List.mem_cons, Option.mem_toList] at hm
    rcases hm with rfl | hm
    · exact row_ne h.rs h.blk (by decide) hi
    · exact rows_ne h.rs h.rl (by decide) i hi hm
  · simp only [List.mem_cons, Option.mem_toList] at hm
    rcases hm with rfl | hm
    · exact row_ne h.rd h.blk (by decide) hi
    · exact rows_ne h.rd h.rl (by decide) i hi hm
  · simp only [List.mem_cons, Option.mem_toList] at hm
    rcases hm with rfl | hm
    · exact h.gb
    · exact (row_lo h.rl x hm).1
/-- a world without anything -/
def u00 (g : Nat) : Wl := ⟨g, .slice none 0 0, .slice none 0 0, .slice none 0 0, .slice none 0 0, .slice none 0 0, []⟩
theorem Wm.start (w : World) : Wm w [] (w.alloc (.cells (wdC (u00 w.heap.size)) 61)) (u00 w.heap.size) ⟨[], [], [], []⟩ :=
  ⟨Blk.new w _ _, row_nil _ _ _ _, row_nil _ _ _ _, row_nil _ _ _ _, row_nil _ _ _ _, row_nil _ _ _ _, rfl, fun i hi => (by cases hi), fun i hi => (by cases hi), fun i hi => (by cases hi), fun i j hi => (by cases hi), Nat.le_refl _, alloc_below w _⟩
/-- a row of numbers as a slice that can be read -/
theorem rowI_read {w : World} {lo n cap : Nat} {A : Option Addr} {l : List Int} (h : w.ownsRow lo 3 1 (.slice A n cap) n (vI l)) : RdI w A n l := by
  have hl : l.length = n := by have := h.1; rw [vI_len] at this; omega
  refine ⟨hl, by obtain ⟨_, _, he, _, h1, h2, _⟩ := row_slice h; cases he; omega, fun hn => ?_⟩
  rcases h.2 with ⟨_, h0⟩ | ⟨g', cap', cur, he, hg, hh, h4, h5, h6, h7⟩
  · omega
  · cases he
    refine ⟨g', 0, rfl, fun i hi => ?_⟩
    rw [Nat.zero_add]
    exact (row_cells h i _ (vI_at l i (by omega))).1
end Go.Proofs.Ytjajgjpkiofhmaa.El
