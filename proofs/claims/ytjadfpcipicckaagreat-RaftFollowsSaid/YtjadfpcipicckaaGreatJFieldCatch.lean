/-
  Several texts in one: What the deferred functions of the reader's methods do: of a method that panics they recover, lay the result's zero and mark the reader; of one that returns they do nothing. Conditions: as each theorem states. The reader in memory (Rdr); what package field's New and bytes.Clone make; what the reader's small methods (unread, Bad, Whole) answer. Conditions: the reader lies in memory as it was made.
-/
import Derived.Test.YtjadfpcipicckaaGreatFieldCutC
import Derived.Test.YtjadfpcipicckaaGreatFieldMake
import Derived.Defers
import Derived.Recover
import Derived.Laws.Pointers
import Derived.Lib.LazyBuf
namespace Go.Proofs.YtjadfpcipicckaaGreat.Fld
open Go.RowKit

set_option maxHeartbeats 800000 in
theorem catchN_panic (p q : Addr) (g : Nat) (x : Value) (bad : Bool) (w : World) (hp : w.cell? p = some x) (hpz : w.frozen? p = false) (hq : w.cell? q = some (.pointer (some ⟨g, 0, none⟩)))
    (hg : w.cell? ⟨g, 1, none⟩ = some (.bool bad)) (hgz : w.frozen? ⟨g, 1, none⟩ = false) (hpg : p.block ≠ g) (older : List PanicEntry) (u : TypeId) (pv : Value) :
    CallsD Tryz.prog 111 #[.pointer (some p), .pointer (some q)] (.panicking ({ v := .iface u pv, recovered := false } :: older)) w fun e u' w' =>
      e = .returned (.tuple #[]) ∧ u' = .panicking ({ v := .iface u pv, recovered := true } :: older) ∧ w' = (w.setCell p (.int .u64 0)).setCell ⟨g, 1, none⟩ (.bool true) := by
  have hg1 : (w.setCell p (.int .u64 0)).cell? ⟨g, 1, none⟩ = some (.bool bad) := (World.cell?_of_block (w := w) (Below.heap_setCell w p _ g (Ne.symm hpg))).trans hg
  refine callsD_of_wpS Tryz.func111 rfl fun c₀ cs hu => ?_
  apply wpS_seq
  apply wpS_region
  simp [wpOpsS, go_sem, recoverD, hu, Tryz.ntmps111, Exit.thenS]
  refine wpS_cond (t := true) (by simp [Act.eval, Array.replicate]) ?_
  simp only [if_true]
  apply wpS_region
  simp [wpOpsS, go_sem, hp, hpz, hq, hg1, hgz, bodyPostS, results, Tryz.results111]
theorem catchN_idle (p q : Addr) (w : World) :
    CallsD Tryz.prog 111 #[.pointer (some p), .pointer (some q)] .returning w fun e u' w' => e = .returned (.tuple #[]) ∧ u' = .returning ∧ w' = w := by
  refine callsD_of_wpS Tryz.func111 rfl fun c₀ cs hu => ?_
  apply wpS_seq
  apply wpS_region
  simp [wpOpsS, go_sem, recoverD, hu, Tryz.ntmps111, Exit.thenS]
  refine wpS_cond (t := false) (by simp [Act.eval, Array.replicate]) ?_
  simp only [Bool.false_eq_true, if_false]
  refine wpS_of_wp (wp_skip ?_)
  cases c₀
  simp_all [bodyPostS, results, Tryz.results111]

end Go.Proofs.YtjadfpcipicckaaGreat.Fld

namespace Go.Proofs.YtjadfpcipicckaaGreat.Fld
open Go.RowKit

/-- of the blocks that were there, block g alone may have changed -/
structure Chg (g : Nat) (w w' : World) : Prop where
  os : w'.os = w.os
  tape : w'.tape = w.tape
  output : w'.output = w.output
  size : w.heap.size ≤ w'.heap.size
  block : ∀ k, k < w.heap.size → k ≠ g → w'.heap[k]? = w.heap[k]?
theorem Chg.refl (g : Nat) (w : World) : Chg g w w := ⟨rfl, rfl, rfl, Nat.le_refl _, fun _ _ _ => rfl⟩
theorem Chg.trans {g : Nat} {a b c : World} (h : Chg g a b) (k : Chg g b c) : Chg g a c :=
  ⟨k.os.trans h.os, k.tape.trans h.tape, k.output.trans h.output, Nat.le_trans h.size k.size, fun i hi hg => (k.block i (Nat.lt_of_lt_of_le hi h.size) hg).trans (h.block i hi hg)⟩
theorem Chg.alloc {g : Nat} {a w : World} (h : Chg g a w) (o : Obj) : Chg g a (w.alloc o) :=
  h.trans ⟨rfl, rfl, rfl, by simp, fun k hk _ => Below.heap_alloc _ _ _ hk⟩
theorem Chg.setCell {g : Nat} {a w : World} (h : Chg g a w) (p : Addr) (hp : p.block = g ∨ a.heap.size ≤ p.block) (u : Value) : Chg g a (w.setCell p u) := by
  refine ⟨h.os, h.tape, h.output, by simpa [World.setCell] using h.size, fun k hk hg => ?_⟩
  rw [Below.heap_setCell _ _ _ _ (by rcases hp with hp | hp <;> omega)]
  exact h.block k hk hg
theorem Chg.still {g : Nat} {a w w' : World} (h : Chg g a w) (hs : Still w w') : Chg g a w' :=
  ⟨hs.2.1.trans h.os, hs.2.2.1.trans h.tape, hs.2.2.2.trans h.output, by rw [hs.1]; exact h.size, fun k hk hg => by rw [hs.1]; exact h.block k hk hg⟩
theorem Chg.below {g : Nat} {w w' : World} (h : Below w.heap.size w w') : Chg g w w' := ⟨h.os, h.tape, h.output, h.size, fun k hk _ => h.block k hk⟩
theorem Below.chg {w0 w w' : World} {g : Nat} (h : Below w0.heap.size w0 w) (hc : Chg g w w') (hg : w0.heap.size ≤ g) : Below w0.heap.size w0 w' :=
  h.trans ⟨hc.os, hc.tape, hc.output, hc.size, fun k hk => hc.block k (by have := h.size; omega) (by omega)⟩

/-- block g holds a reader's two fields -/
def Two (w : World) (g : Nat) (A : Option Addr) (n cap : Nat) (bad : Bool) : Prop := w.heap[g]? = some (.cells #[.slice A n cap, .bool bad] 166 (0, 0))
theorem Two.lt {w : World} {g : Nat} {A : Option Addr} {n cap : Nat} {bad : Bool} (h : Two w g A n cap bad) : g < w.heap.size := by
  rcases Nat.lt_or_ge g w.heap.size with h' | h'
  · exact h'
  · unfold Two at h; rw [Array.getElem?_eq_none h'] at h; cases h
theorem Two.cells {w : World} {g : Nat} {A : Option Addr} {n cap : Nat} {bad : Bool} (h : Two w g A n cap bad) :
    w.cell? ⟨g, 0, none⟩ = some (.slice A n cap) ∧ w.cell? ⟨g, 1, none⟩ = some (.bool bad) ∧ w.frozen? ⟨g, 0, none⟩ = false ∧ w.frozen? ⟨g, 1, none⟩ = false :=
  ⟨by rw [cell_of_row w g 0 _ _ (0, 0) h]; rfl, by rw [cell_of_row w g 1 _ _ (0, 0) h]; rfl, frozen_of_row w g 0 _ _ h, frozen_of_row w g 1 _ _ h⟩
theorem Two.of_block {w w' : World} {g : Nat} {A : Option Addr} {n cap : Nat} {bad : Bool} (h : Two w g A n cap bad) (hb : w'.heap[g]? = w.heap[g]?) : Two w' g A n cap bad := hb.trans h
theorem Two.set0 {w : World} {g : Nat} {A : Option Addr} {n cap : Nat} {bad : Bool} (h : Two w g A n cap bad) (A' : Option Addr) (n' cap' : Nat) : Two (w.setCell ⟨g, 0, none⟩ (.slice A' n' cap')) g A' n' cap' bad :=
  heap_setCell_same w g 0 _ _ _ h
theorem Two.set1 {w : World} {g : Nat} {A : Option Addr} {n cap : Nat} {bad : Bool} (h : Two w g A n cap bad) (bad' : Bool) : Two (w.setCell ⟨g, 1, none⟩ (.bool bad')) g A n cap bad' :=
  heap_setCell_same w g 1 _ _ _ h
theorem Two.other {w : World} {g : Nat} {A : Option Addr} {n cap : Nat} {bad : Bool} (h : Two w g A n cap bad) (p : Addr) (hp : p.block ≠ g) (u : Value) : Two (w.setCell p u) g A n cap bad :=
  h.of_block (Below.heap_setCell _ _ _ _ (Ne.symm hp))
theorem Two.still {w w' : World} {g : Nat} {A : Option Addr} {n cap : Nat} {bad : Bool} (h : Two w g A n cap bad) (hs : Still w w') : Two w' g A n cap bad := h.of_block (by rw [hs.1])
theorem Two.below {w w' : World} {g : Nat} {A : Option Addr} {n cap : Nat} {bad : Bool} (h : Two w g A n cap bad) (hb : Below w.heap.size w w') : Two w' g A n cap bad := h.of_block (hb.block g h.lt)
/-- bytes don't lie in a reader's block -/
theorem Sl.chg {w w' : World} {g : Nat} {A : Option Addr} {n cap : Nat} {zs : List Int} (h : Sl w A n cap zs) (hc : Chg g w w') {A' : Option Addr} {n' cap' : Nat} {bad : Bool} (ht : Two w g A' n' cap' bad) : Sl w' A n cap zs := by
  refine ⟨h.1.of_same fun a c ha => ?_, h.2⟩
  have hlt := lt_of_cell ha
  have hne : a.block ≠ g := by
    rintro rfl
    unfold World.cell? at ha
    rw [ht] at ha
    obtain ⟨b, off, sp⟩ := a
    rcases off with _ | _ | off
    · cases sp <;> simp at ha
    · cases sp <;> simp at ha
    · cases sp <;> simp at ha
  exact World.cell?_of_block (w := w) (hc.block _ hlt hne)

/-- a reader, with what is left to read -/
def Rdr (w : World) (g : Nat) (zs : List Int) (bad : Bool) : Prop := ∃ A n cap, Two w g A n cap bad ∧ Sl w A n cap zs ∧ n ≤ 140737488355328
theorem Rdr.below {w w' : World} {g : Nat} {zs : List Int} {bad : Bool} (h : Rdr w g zs bad) (hb : Below w.heap.size w w') : Rdr w' g zs bad := by
  obtain ⟨A, n, cap, h1, h2, h3⟩ := h
  exact ⟨A, n, cap, h1.below hb, h2.below hb, h3⟩
theorem Rdr.lt {w : World} {g : Nat} {zs : List Int} {bad : Bool} (h : Rdr w g zs bad) : g < w.heap.size := by
  obtain ⟨A, n, cap, h1, _⟩ := h
  exact h1.lt

set_option maxHeartbeats 800000 in
theorem clone_any (A : Option Addr) (n cap : Nat) (zs : List Int) (w : World) (hr : Rd w A n zs) (hA : A = none → cap = 0) (hn : n ≤ 140737488355328) : Calls Tryz.prog 47 #[.slice A n cap] w (Made w zs) := by
  have q := fun (w : World) (a : Option Addr) (l c : Nat) => run_eql_slice_nil (P := Tryz.prog) w 27 5 a l c Tryz.underlying27
  cases A with
  | none =>
    have hn0 : n = 0 := by
      rcases Nat.eq_zero_or_pos n with h0 | h0
      · exact h0
      · obtain ⟨b, off, he, _⟩ := hr.2.2.2 h0; cases he
    subst hn0
    obtain rfl : zs = [] := List.eq_nil_of_length_eq_zero hr.1
    obtain rfl := hA rfl
    clear hr hA
    go_enter Tryz.func47, Tryz.ntmps47
    go_wp2
    go_ret
    exact ⟨_, rfl, Own.nil w w (Below.refl _ _)⟩
  | some a =>
    have HR := Lib.hid hr
    have HA := Lib.hid hA
    have HO := Lib.hid (Own.made w w (Below.refl _ _))
    have HR1 := Lib.hid (HR.out.below HO.out.1)
    unfold noneBlk at HO HR1
    clear hr hA
    go_enter Tryz.func47, Tryz.ntmps47
    go_wp2_with (refine wpList_append_rd rfl _ _ rfl w _ [] rfl HO.out (some a) n cap zs rfl HA.out HR1.out (by simp; omega) ?_)
    intro v1 w1 hO1 _ _
    have HO2 := Lib.hid hO1
    clear hO1
    go_wp2
    go_ret
    exact ⟨_, rfl, HO2.out⟩

/-- a new reader -/
def IsNew (w : World) (zs : List Int) (e : Ending) (w' : World) : Prop := ∃ g, e = .returned (.pointer (some ⟨g, 0, none⟩)) ∧ w.heap.size ≤ g ∧ Rdr w' g zs false ∧ Below w.heap.size w w'
set_option maxHeartbeats 800000 in
theorem new_any (A : Option Addr) (n cap : Nat) (zs : List Int) (w : World) (hr : Rd w A n zs) (hA : A = none → cap = 0) (hn : n ≤ 140737488355328) : Calls Tryz.prog 84 #[.slice A n cap] w (IsNew w zs) := by
  have HN := Lib.hid (clone_any A n cap zs w hr hA hn)
  have HL := Lib.hid hr.1
  clear hr hA
  go_enter Tryz.func84, Tryz.ntmps84
  go_wp2_with fail
  refine HN.out.mono ?_
  rintro e w1 ⟨v, rfl, hO⟩
  obtain ⟨A1, c1, hv, hs, _⟩ := hO.sl n HL.out
  subst hv
  have HS := Lib.hid hs
  have HB := Lib.hid hO.1
  clear hs hO
  go_wp2
  go_ret
  exact ⟨w1.heap.size, rfl, HB.out.size, ⟨A1, n, c1, heap_alloc_new w1 _, HS.out.below ((Below.refl _ _).alloc (Nat.le_refl _) _), hn⟩, HB.out.alloc HB.out.size _⟩

set_option maxHeartbeats 800000 in
theorem unread_ok (g : Nat) (A : Option Addr) (n cap : Nat) (w : World) (h : Two w g A n cap false) : Calls Tryz.prog 113 #[.pointer (some ⟨g, 0, none⟩)] w fun e w' => e = .returned (.slice A n cap) ∧ w = w' := by
  obtain ⟨h1, h2, _, _⟩ := h.cells
  clear h
  go_enter Tryz.func113, Tryz.ntmps113
  go_wp2_with (go_at_call 114; refine (demand_ok _).mono ?_; rintro e w' ⟨rfl, rfl⟩)
  go_ret
  exact ⟨rfl, rfl⟩
set_option maxHeartbeats 800000 in
theorem unread_bad (g : Nat) (A : Option Addr) (n cap : Nat) (w : World) (h : Two w g A n cap true) : Calls Tryz.prog 113 #[.pointer (some ⟨g, 0, none⟩)] w fun e w' => e = .panicked errP ∧ w = w' := by
  obtain ⟨h1, h2, _, _⟩ := h.cells
  clear h
  go_enter Tryz.func113, Tryz.ntmps113
  go_wp2_with (go_at_call 114; refine (demand_bad _).mono ?_; rintro e w' ⟨rfl, rfl⟩)
  exact ⟨rfl, rfl, rfl⟩
def wholeB (zs : List Int) (bad : Bool) : Bool := !bad && decide (zs = [])
set_option maxHeartbeats 800000 in
theorem whole_any (g : Nat) (zs : List Int) (bad : Bool) (w : World) (h : Rdr w g zs bad) : Calls Tryz.prog 86 #[.pointer (some ⟨g, 0, none⟩)] w fun e w' => e = .returned (.bool (wholeB zs bad)) ∧ w = w' := by
  obtain ⟨A, n, cap, h, hs, _⟩ := h
  obtain ⟨h1, h2, _, _⟩ := h.cells
  have HW := Lib.hid (show wholeB zs bad = (!bad && ((n : Int) == 0)) by
    rw [wholeB]
    congr 1
    rw [Bool.eq_iff_iff]
    simp only [decide_eq_true_eq, beq_iff_eq]
    have := hs.1.1
    exact ⟨fun h => by rw [h] at this; simp at this; omega, fun h => List.eq_nil_of_length_eq_zero (by omega)⟩)
  have hm := hs.1.2.1
  unfold maxLen at hm
  clear h hs
  rw [HW.out]
  cases bad
  all_goals
    go_enter Tryz.func86, Tryz.ntmps86
    go_wp2
    go_ret
    exact ⟨rfl, rfl⟩
end Go.Proofs.YtjadfpcipicckaaGreat.Fld
