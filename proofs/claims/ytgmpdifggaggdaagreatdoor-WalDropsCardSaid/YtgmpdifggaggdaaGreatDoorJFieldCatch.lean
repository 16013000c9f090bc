/-
  Several texts in one: What the deferred functions of the reader's methods do: of a method that panics they recover, lay the result's zero and mark the reader; of one that returns they do nothing. Conditions: as each theorem states. The reader in memory (Rdr); what package field's New and bytes.Clone make; what the reader's small methods (unread, Bad, Whole) answer. Conditions: the reader lies in memory as it was made. Inside a method of the reader: its variables in memory (Fr), and what becomes of them. Conditions: as each theorem states. What the reader's method Int answers, and what becomes of the reader. Conditions: the reader lies in memory as it was made (Rdr). What the reader's method Text answers, and what becomes of the reader. Conditions: the reader lies in memory as it was made (Rdr).
-/
import Derived.Test.YtgmpdifggaggdaaGreatDoorJFieldCut
import Derived.Test.YtgmpdifggaggdaaGreatDoorJFieldMake
import Derived.Defers
import Derived.Recover
import Derived.Laws.Pointers
import Derived.Lib.LazyBuf
namespace Go.Proofs.YtgmpdifggaggdaaGreatDoor.Fld
open Go.RowKit

set_option maxHeartbeats 800000 in
theorem catchI_panic (p q : Addr) (g : Nat) (x : Value) (bad : Bool) (w : World) (hp : w.cell? p = some x) (hpz : w.frozen? p = false) (hq : w.cell? q = some (.pointer (some ⟨g, 0, none⟩)))
    (hg : w.cell? ⟨g, 1, none⟩ = some (.bool bad)) (hgz : w.frozen? ⟨g, 1, none⟩ = false) (hpg : p.block ≠ g) (older : List PanicEntry) (u : TypeId) (pv : Value) :
    CallsD Tryz.prog 158 #[.pointer (some p), .pointer (some q)] (.panicking ({ v := .iface u pv, recovered := false } :: older)) w fun e u' w' =>
      e = .returned (.tuple #[]) ∧ u' = .panicking ({ v := .iface u pv, recovered := true } :: older) ∧ w' = (w.setCell p (.int .i64 0)).setCell ⟨g, 1, none⟩ (.bool true) := by
  have hg1 : (w.setCell p (.int .i64 0)).cell? ⟨g, 1, none⟩ = some (.bool bad) := (World.cell?_of_block (w := w) (Below.heap_setCell w p _ g (Ne.symm hpg))).trans hg
  refine callsD_of_wpS Tryz.func158 rfl fun c₀ cs hu => ?_
  apply wpS_seq
  apply wpS_region
  simp [wpOpsS, go_sem, recoverD, hu, Tryz.ntmps158, Exit.thenS]
  refine wpS_cond (t := true) (by simp [Act.eval, Array.replicate]) ?_
  simp only [if_true]
  apply wpS_region
  simp [wpOpsS, go_sem, hp, hpz, hq, hg1, hgz, bodyPostS, results, Tryz.results158]
theorem catchI_idle (p q : Addr) (w : World) :
    CallsD Tryz.prog 158 #[.pointer (some p), .pointer (some q)] .returning w fun e u' w' => e = .returned (.tuple #[]) ∧ u' = .returning ∧ w' = w := by
  refine callsD_of_wpS Tryz.func158 rfl fun c₀ cs hu => ?_
  apply wpS_seq
  apply wpS_region
  simp [wpOpsS, go_sem, recoverD, hu, Tryz.ntmps158, Exit.thenS]
  refine wpS_cond (t := false) (by simp [Act.eval, Array.replicate]) ?_
  simp only [Bool.false_eq_true, if_false]
  refine wpS_of_wp (wp_skip ?_)
  cases c₀
  simp_all [bodyPostS, results, Tryz.results158]

set_option maxHeartbeats 800000 in
theorem catchT_panic (p q : Addr) (g : Nat) (x : Value) (bad : Bool) (w : World) (hp : w.cell? p = some x) (hpz : w.frozen? p = false) (hq : w.cell? q = some (.pointer (some ⟨g, 0, none⟩)))
    (hg : w.cell? ⟨g, 1, none⟩ = some (.bool bad)) (hgz : w.frozen? ⟨g, 1, none⟩ = false) (hpg : p.block ≠ g) (older : List PanicEntry) (u : TypeId) (pv : Value) :
    CallsD Tryz.prog 162 #[.pointer (some p), .pointer (some q)] (.panicking ({ v := .iface u pv, recovered := false } :: older)) w fun e u' w' =>
      e = .returned (.tuple #[]) ∧ u' = .panicking ({ v := .iface u pv, recovered := true } :: older) ∧ w' = (w.setCell p (.slice none 0 0)).setCell ⟨g, 1, none⟩ (.bool true) := by
  have hg1 : (w.setCell p (.slice none 0 0)).cell? ⟨g, 1, none⟩ = some (.bool bad) := (World.cell?_of_block (w := w) (Below.heap_setCell w p _ g (Ne.symm hpg))).trans hg
  refine callsD_of_wpS Tryz.func162 rfl fun c₀ cs hu => ?_
  apply wpS_seq
  apply wpS_region
  simp [wpOpsS, go_sem, recoverD, hu, Tryz.ntmps162, Exit.thenS]
  refine wpS_cond (t := true) (by simp [Act.eval, Array.replicate]) ?_
  simp only [if_true]
  apply wpS_region
  simp [wpOpsS, go_sem, hp, hpz, hq, hg1, hgz, bodyPostS, results, Tryz.results162]
theorem catchT_idle (p q : Addr) (w : World) :
    CallsD Tryz.prog 162 #[.pointer (some p), .pointer (some q)] .returning w fun e u' w' => e = .returned (.tuple #[]) ∧ u' = .returning ∧ w' = w := by
  refine callsD_of_wpS Tryz.func162 rfl fun c₀ cs hu => ?_
  apply wpS_seq
  apply wpS_region
  simp [wpOpsS, go_sem, recoverD, hu, Tryz.ntmps162, Exit.thenS]
  refine wpS_cond (t := false) (by simp [Act.eval, Array.replicate]) ?_
  simp only [Bool.false_eq_true, if_false]
  refine wpS_of_wp (wp_skip ?_)
  cases c₀
  simp_all [bodyPostS, results, Tryz.results162]
end Go.Proofs.YtgmpdifggaggdaaGreatDoor.Fld

namespace Go.Proofs.YtgmpdifggaggdaaGreatDoor.Fld
open Go.RowKit

/-- of the blocks that were there, block g alone may have changed -/
structure Chg (g : Nat) (w w' : World) : Prop where
  os : w'.os = w.os
  tape : w'.tape = w.tape
  output : w'.output = w.output
  size : w.heap.size ≤ w'.heap.size
  block : ∀ k, k < w.heap.size → k ≠ g → w'.heap[k]? = w.heap[k]?
theorem Chg.refl (g : Nat) (w : World) : Chg g w w := ⟨rfl, rfl, rfl, Nat.le_refl _, fun _ _ _ => rfl⟩
theorem Chg.trans {g : Nat} {a b c : World} (h : Chg g a b) (k : Chg g b c) : Chg g a c :=
  ⟨k.os.trans h.os, k.tape.trans h.tape, k.output.trans h.output, Nat.le_trans h.size k.size, fun i hi hg => (k.block i (Nat.lt_of_lt_of_le hi h.size) hg).trans (h.block i hi hg)⟩
theorem Chg.alloc {g : Nat} {a w : World} (h : Chg g a w) (o : Obj) : Chg g a (w.alloc o) :=
  h.trans ⟨rfl, rfl, rfl, by simp, fun k hk _ => Below.heap_alloc _ _ _ hk⟩
theorem Chg.setCell {g : Nat} {a w : World} (h : Chg g a w) (p : Addr) (hp : p.block = g ∨ a.heap.size ≤ p.block) (u : Value) : Chg g a (w.setCell p u) := by
  refine ⟨h.os, h.tape, h.output, by simpa [World.setCell] using h.size, fun k hk hg => ?_⟩
  rw [Below.heap_setCell _ _ _ _ (by rcases hp with hp | hp <;> omega)]
  exact h.block k hk hg
theorem Chg.still {g : Nat} {a w w' : World} (h : Chg g a w) (hs : Still w w') : Chg g a w' :=
  ⟨hs.2.1.trans h.os, hs.2.2.1.trans h.tape, hs.2.2.2.trans h.output, by rw [hs.1]; exact h.size, fun k hk hg => by rw [hs.1]; exact h.block k hk hg⟩
theorem Chg.below {g : Nat} {w w' : World} (h : Below w.heap.size w w') : Chg g w w' := ⟨h.os, h.tape, h.output, h.size, fun k hk _ => h.block k hk⟩
theorem Below.chg {w0 w w' : World} {g : Nat} (h : Below w0.heap.size w0 w) (hc : Chg g w w') (hg : w0.heap.size ≤ g) : Below w0.heap.size w0 w' :=
  h.trans ⟨hc.os, hc.tape, hc.output, hc.size, fun k hk => hc.block k (by have := h.size; omega) (by omega)⟩

/-- block g holds a reader's two fields -/
def Two (w : World) (g : Nat) (A : Option Addr) (n cap : Nat) (bad : Bool) : Prop := w.heap[g]? = some (.cells #[.slice A n cap, .bool bad] 184 (0, 0))
theorem Two.lt {w : World} {g : Nat} {A : Option Addr} {n cap : Nat} {bad : Bool} (h : Two w g A n cap bad) : g < w.heap.size := by
  rcases Nat.lt_or_ge g w.heap.size with h' | h'
  · exact h'
  · unfold Two at h; rw [Array.getElem?_eq_none h'] at h; cases h
theorem Two.cells {w : World} {g : Nat} {A : Option Addr} {n cap : Nat} {bad : Bool} (h : Two w g A n cap bad) :
    w.cell? ⟨g, 0, none⟩ = some (.slice A n cap) ∧ w.cell? ⟨g, 1, none⟩ = some (.bool bad) ∧ w.frozen? ⟨g, 0, none⟩ = false ∧ w.frozen? ⟨g, 1, none⟩ = false :=
  ⟨by rw [cell_of_row w g 0 _ _ (0, 0) h]; rfl, by rw [cell_of_row w g 1 _ _ (0, 0) h]; rfl, frozen_of_row w g 0 _ _ h, frozen_of_row w g 1 _ _ h⟩
theorem Two.of_block {w w' : World} {g : Nat} {A : Option Addr} {n cap : Nat} {bad : Bool} (h : Two w g A n cap bad) (hb : w'.heap[g]? = w.heap[g]?) : Two w' g A n cap bad := hb.trans h
theorem Two.set0 {w : World} {g : Nat} {A : Option Addr} {n cap : Nat} {bad : Bool} (h : Two w g A n cap bad) (A' : Option Addr) (n' cap' : Nat) : Two (w.setCell ⟨g, 0, none⟩ (.slice A' n' cap')) g A' n' cap' bad :=
  heap_setCell_same w g 0 _ _ _ h
theorem Two.set1 {w : World} {g : Nat} {A : Option Addr} {n cap : Nat} {bad : Bool} (h : Two w g A n cap bad) (bad' : Bool) : Two (w.setCell ⟨g, 1, none⟩ (.bool bad')) g A n cap bad' :=
  heap_setCell_same w g 1 _ _ _ h
theorem Two.other {w : World} {g : Nat} {A : Option Addr} {n cap : Nat} {bad : Bool} (h : Two w g A n cap bad) (p : Addr) (hp : p.block ≠ g) (u : Value) : Two (w.setCell p u) g A n cap bad :=
  h.of_block (Below.heap_setCell _ _ _ _ (Ne.symm hp))
theorem Two.still {w w' : World} {g : Nat} {A : Option Addr} {n cap : Nat} {bad : Bool} (h : Two w g A n cap bad) (hs : Still w w') : Two w' g A n cap bad := h.of_block (by rw [hs.1])
theorem Two.below {w w' : World} {g : Nat} {A : Option Addr} {n cap : Nat} {bad : Bool} (h : Two w g A n cap bad) (hb : Below w.heap.size w w') : Two w' g A n cap bad := h.of_block (hb.block g h.lt)
/-- bytes don't lie in a reader's block -/
theorem Sl.chg {w w' : World} {g : Nat} {A : Option Addr} {n cap : Nat} {zs : List Int} (h : Sl w A n cap zs) (hc : Chg g w w') {A' : Option Addr} {n' cap' : Nat} {bad : Bool} (ht : Two w g A' n' cap' bad) : Sl w' A n cap zs := by
  refine ⟨h.1.of_same fun a c ha => ?_, h.2⟩
  have hlt := lt_of_cell ha
  have hne : a.block ≠ g := by
    rintro rfl
    unfold World.cell? at ha
    rw [ht] at ha
    obtain ⟨b, off, sp⟩ := a
    rcases off with _ | _ | off
    · cases sp <;> simp at ha
    · cases sp <;> simp at ha
    · cases sp <;> simp at ha
  exact World.cell?_of_block (w := w) (hc.block _ hlt hne)

/-- a reader, with what is left to read -/
def Rdr (w : World) (g : Nat) (zs : List Int) (bad : Bool) : Prop := ∃ A n cap, Two w g A n cap bad ∧ Sl w A n cap zs ∧ n ≤ 140737488355328
theorem Rdr.below {w w' : World} {g : Nat} {zs : List Int} {bad : Bool} (h : Rdr w g zs bad) (hb : Below w.heap.size w w') : Rdr w' g zs bad := by
  obtain ⟨A, n, cap, h1, h2, h3⟩ := h
  exact ⟨A, n, cap, h1.below hb, h2.below hb, h3⟩
theorem Rdr.lt {w : World} {g : Nat} {zs : List Int} {bad : Bool} (h : Rdr w g zs bad) : g < w.heap.size := by
  obtain ⟨A, n, cap, h1, _⟩ := h
  exact h1.lt

set_option maxHeartbeats 800000 in
theorem clone_any (A : Option Addr) (n cap : Nat) (zs : List Int) (w : World) (hr : Rd w A n zs) (hA : A = none → cap = 0) (hn : n ≤ 140737488355328) : Calls Tryz.prog 60 #[.slice A n cap] w (Made w zs) := by
  have q := fun (w : World) (a : Option Addr) (l c : Nat) => run_eql_slice_nil (P := Tryz.prog) w 45 5 a l c Tryz.underlying45
  cases A with
  | none =>
    have hn0 : n = 0 := by
      rcases Nat.eq_zero_or_pos n with h0 | h0
      · exact h0
      · obtain ⟨b, off, he, _⟩ := hr.2.2.2 h0; cases he
    subst hn0
    obtain rfl : zs = [] := List.eq_nil_of_length_eq_zero hr.1
    obtain rfl := hA rfl
    clear hr hA
    go_enter Tryz.func60, Tryz.ntmps60
    go_wp2
    go_ret
    exact ⟨_, rfl, Own.nil w w (Below.refl _ _)⟩
  | some a =>
    have HR := Lib.hid hr
    have HA := Lib.hid hA
    have HO := Lib.hid (Own.made w w (Below.refl _ _))
    have HR1 := Lib.hid (HR.out.below HO.out.1)
    unfold noneBlk at HO HR1
    clear hr hA
    go_enter Tryz.func60, Tryz.ntmps60
    go_wp2_with (refine wpList_append_rd rfl _ _ rfl w _ [] rfl HO.out (some a) n cap zs rfl HA.out HR1.out (by simp; omega) ?_)
    intro v1 w1 hO1 _ _
    have HO2 := Lib.hid hO1
    clear hO1
    go_wp2
    go_ret
    exact ⟨_, rfl, HO2.out⟩

/-- a new reader -/
def IsNew (w : World) (zs : List Int) (e : Ending) (w' : World) : Prop := ∃ g, e = .returned (.pointer (some ⟨g, 0, none⟩)) ∧ w.heap.size ≤ g ∧ Rdr w' g zs false ∧ Below w.heap.size w w'
set_option maxHeartbeats 800000 in
theorem new_any (A : Option Addr) (n cap : Nat) (zs : List Int) (w : World) (hr : Rd w A n zs) (hA : A = none → cap = 0) (hn : n ≤ 140737488355328) : Calls Tryz.prog 118 #[.slice A n cap] w (IsNew w zs) := by
  have HN := Lib.hid (clone_any A n cap zs w hr hA hn)
  have HL := Lib.hid hr.1
  clear hr hA
  go_enter Tryz.func118, Tryz.ntmps118
  go_wp2_with fail
  refine HN.out.mono ?_
  rintro e w1 ⟨v, rfl, hO⟩
  obtain ⟨A1, c1, hv, hs, _⟩ := hO.sl n HL.out
  subst hv
  have HS := Lib.hid hs
  have HB := Lib.hid hO.1
  clear hs hO
  go_wp2
  go_ret
  exact ⟨w1.heap.size, rfl, HB.out.size, ⟨A1, n, c1, heap_alloc_new w1 _, HS.out.below ((Below.refl _ _).alloc (Nat.le_refl _) _), hn⟩, HB.out.alloc HB.out.size _⟩

set_option maxHeartbeats 800000 in
theorem unread_ok (g : Nat) (A : Option Addr) (n cap : Nat) (w : World) (h : Two w g A n cap false) : Calls Tryz.prog 160 #[.pointer (some ⟨g, 0, none⟩)] w fun e w' => e = .returned (.slice A n cap) ∧ w = w' := by
  obtain ⟨h1, h2, _, _⟩ := h.cells
  clear h
  go_enter Tryz.func160, Tryz.ntmps160
  go_wp2_with (go_at_call 161; refine (demand_ok _).mono ?_; rintro e w' ⟨rfl, rfl⟩)
  go_ret
  exact ⟨rfl, rfl⟩
set_option maxHeartbeats 800000 in
theorem unread_bad (g : Nat) (A : Option Addr) (n cap : Nat) (w : World) (h : Two w g A n cap true) : Calls Tryz.prog 160 #[.pointer (some ⟨g, 0, none⟩)] w fun e w' => e = .panicked errP ∧ w = w' := by
  obtain ⟨h1, h2, _, _⟩ := h.cells
  clear h
  go_enter Tryz.func160, Tryz.ntmps160
  go_wp2_with (go_at_call 161; refine (demand_bad _).mono ?_; rintro e w' ⟨rfl, rfl⟩)
  exact ⟨rfl, rfl, rfl⟩
def wholeB (zs : List Int) (bad : Bool) : Bool := !bad && decide (zs = [])
set_option maxHeartbeats 800000 in
theorem whole_any (g : Nat) (zs : List Int) (bad : Bool) (w : World) (h : Rdr w g zs bad) : Calls Tryz.prog 121 #[.pointer (some ⟨g, 0, none⟩)] w fun e w' => e = .returned (.bool (wholeB zs bad)) ∧ w = w' := by
  obtain ⟨A, n, cap, h, hs, _⟩ := h
  obtain ⟨h1, h2, _, _⟩ := h.cells
  have HW := Lib.hid (show wholeB zs bad = (!bad && ((n : Int) == 0)) by
    rw [wholeB]
    congr 1
    rw [Bool.eq_iff_iff]
    simp only [decide_eq_true_eq, beq_iff_eq]
    have := hs.1.1
    exact ⟨fun h => by rw [h] at this; simp at this; omega, fun h => List.eq_nil_of_length_eq_zero (by omega)⟩)
  have hm := hs.1.2.1
  unfold maxLen at hm
  clear h hs
  rw [HW.out]
  cases bad
  all_goals
    go_enter Tryz.func121, Tryz.ntmps121
    go_wp2
    go_ret
    exact ⟨rfl, rfl⟩
end Go.Proofs.YtgmpdifggaggdaaGreatDoor.Fld

namespace Go.Proofs.YtgmpdifggaggdaaGreatDoor.Fld
open Go.RowKit

/-- what was read, and the reader behind it -/
def Got (g : Nat) (w : World) (v : Value) (zs : List Int) (bad : Bool) (e : Ending) (w' : World) : Prop := e = .returned v ∧ Chg g w w' ∧ Rdr w' g zs bad
def NoByte (x : Value) : Prop := ∀ c, x ≠ .int .u8 c
/-- inside a method that began at w: its variable of the reader, its result's, the reader -/
def Fr (w W : World) (g : Nat) (x : Value) (A : Option Addr) (n cap : Nat) (bad : Bool) : Prop :=
  g < w.heap.size ∧ W.cell? ⟨w.heap.size, 0, none⟩ = some (.pointer (some ⟨g, 0, none⟩)) ∧ (∃ t, W.heap[w.heap.size + 1]? = some (.cells #[x] t (0, 0))) ∧ Two W g A n cap bad ∧ Chg g w W ∧ NoByte x
theorem Fr.cellM {w W : World} {g : Nat} {x : Value} {A : Option Addr} {n cap : Nat} {bad : Bool} (h : Fr w W g x A n cap bad) : W.cell? ⟨w.heap.size + 1, 0, none⟩ = some x ∧ W.frozen? ⟨w.heap.size + 1, 0, none⟩ = false := by
  obtain ⟨_, _, ⟨t, ht⟩, _⟩ := h
  exact ⟨by rw [cell_of_row W _ 0 _ _ (0, 0) ht]; rfl, frozen_of_row W _ 0 _ _ ht⟩
theorem Fr.start {w : World} {g : Nat} {A : Option Addr} {n cap : Nat} {bad : Bool} (h : Two w g A n cap bad) (x : Value) (hx : NoByte x) (t1 t2 : TypeId) : Fr w ((w.alloc (.cells #[.pointer (some ⟨g, 0, none⟩)] t1)).alloc (.cells #[x] t2)) g x A n cap bad := by
  have hb : Below w.heap.size w ((w.alloc (.cells #[.pointer (some ⟨g, 0, none⟩)] t1)).alloc (.cells #[x] t2)) := ((Below.refl _ _).alloc (Nat.le_refl _) _).alloc (by simp) _
  refine ⟨h.lt, by go_simp, ⟨t2, ?_⟩, h.below hb, Chg.below hb, hx⟩
  have := heap_alloc_new (w.alloc (.cells #[.pointer (some ⟨g, 0, none⟩)] t1)) (.cells #[x] t2)
  simpa using this
theorem Fr.still {w W W' : World} {g : Nat} {x : Value} {A : Option Addr} {n cap : Nat} {bad : Bool} (h : Fr w W g x A n cap bad) (hs : Still W W') : Fr w W' g x A n cap bad := by
  obtain ⟨h0, h1, ⟨t, h2⟩, h4, h5, h6⟩ := h
  exact ⟨h0, (hs.cell _).trans h1, ⟨t, by rw [hs.1]; exact h2⟩, h4.still hs, h5.still hs, h6⟩
theorem cell_other {w : World} {p q : Addr} {u : Value} (h : q.block ≠ p.block) : (w.setCell p u).cell? q = w.cell? q := World.cell?_of_block (w := w) (Below.heap_setCell w p u q.block h)
theorem Fr.setM {w W : World} {g : Nat} {x : Value} {A : Option Addr} {n cap : Nat} {bad : Bool} (h : Fr w W g x A n cap bad) (y : Value) (hy : NoByte y) : Fr w (W.setCell ⟨w.heap.size + 1, 0, none⟩ y) g y A n cap bad := by
  obtain ⟨h0, h1, ⟨t, h2⟩, h4, h5, _⟩ := h
  exact ⟨h0, (cell_other (by simp)).trans h1, ⟨t, heap_setCell_same W _ 0 _ _ _ h2⟩, h4.other _ (by simp; omega) _, h5.setCell _ (.inr (by simp)) _, hy⟩
theorem Fr.set0 {w W : World} {g : Nat} {x : Value} {A : Option Addr} {n cap : Nat} {bad : Bool} (h : Fr w W g x A n cap bad) (A' : Option Addr) (n' cap' : Nat) : Fr w (W.setCell ⟨g, 0, none⟩ (.slice A' n' cap')) g x A' n' cap' bad := by
  obtain ⟨h0, h1, ⟨t, h2⟩, h4, h5, h6⟩ := h
  exact ⟨h0, (cell_other (by simp; omega)).trans h1, ⟨t, (Below.heap_setCell _ _ _ _ (by simp; omega)).trans h2⟩, h4.set0 _ _ _, h5.setCell _ (.inl rfl) _, h6⟩
theorem Fr.set1 {w W : World} {g : Nat} {x : Value} {A : Option Addr} {n cap : Nat} {bad : Bool} (h : Fr w W g x A n cap bad) (bad' : Bool) : Fr w (W.setCell ⟨g, 1, none⟩ (.bool bad')) g x A n cap bad' := by
  obtain ⟨h0, h1, ⟨t, h2⟩, h4, h5, h6⟩ := h
  exact ⟨h0, (cell_other (by simp; omega)).trans h1, ⟨t, (Below.heap_setCell _ _ _ _ (by simp; omega)).trans h2⟩, h4.set1 _, h5.setCell _ (.inl rfl) _, h6⟩
theorem Fr.below {w W W' : World} {g : Nat} {x : Value} {A : Option Addr} {n cap : Nat} {bad : Bool} (h : Fr w W g x A n cap bad) (hb : Below W.heap.size W W') : Fr w W' g x A n cap bad := by
  obtain ⟨h0, h1, ⟨t, h2⟩, h4, h5, h6⟩ := h
  have lt : w.heap.size + 1 < W.heap.size := by
    rcases Nat.lt_or_ge (w.heap.size + 1) W.heap.size with h' | h'
    · exact h'
    · rw [Array.getElem?_eq_none h'] at h2; cases h2
  exact ⟨h0, (hb.cell (lt_of_cell h1)).trans h1, ⟨t, (hb.block _ lt).trans h2⟩, h4.below hb, h5.trans (Chg.below hb), h6⟩
/-- bytes don't lie in the method's variables, nor in the reader -/
theorem Fr.slM {w W : World} {g : Nat} {x : Value} {A : Option Addr} {n cap : Nat} {bad : Bool} (h : Fr w W g x A n cap bad) {A' : Option Addr} {n' cap' : Nat} {zs : List Int} (hs : Sl W A' n' cap' zs) (y : Value) : Sl (W.setCell ⟨w.heap.size + 1, 0, none⟩ y) A' n' cap' zs := by
  refine ⟨hs.1.of_same fun a c ha => cell_other ?_, hs.2⟩
  intro hab
  simp only at hab
  obtain ⟨_, _, ⟨t, ht⟩, _, _, hx⟩ := h
  unfold World.cell? at ha
  rw [hab, ht] at ha
  obtain ⟨b, off, sp⟩ := a
  rcases off with _ | off
  · cases sp
    · simp at ha; exact hx c ha
    · simp at ha
  · cases sp <;> simp at ha
theorem Fr.slG {w W : World} {g : Nat} {x : Value} {A : Option Addr} {n cap : Nat} {bad : Bool} (h : Fr w W g x A n cap bad) {A' : Option Addr} {n' cap' : Nat} {zs : List Int} (hs : Sl W A' n' cap' zs) (o : Nat) (y : Value) : Sl (W.setCell ⟨g, o, none⟩ y) A' n' cap' zs :=
  hs.chg ((Chg.refl g W).setCell _ (.inl rfl) _) h.2.2.2.1
theorem Fr.done {w W : World} {g : Nat} {x : Value} {A : Option Addr} {n cap : Nat} {bad : Bool} (h : Fr w W g x A n cap bad) {zs : List Int} (hs : Sl W A n cap zs) (hn : n ≤ 140737488355328) (v : Value) : Got g w v zs bad (.returned v) W := ⟨rfl, h.2.2.2.2.1, A, n, cap, h.2.2.2.1, hs, hn⟩
theorem cutNum_len (zs : List Int) (v : Nat) (r : List Int) (h : cutNum zs = some (v, r)) : r.length ≤ zs.length := by
  cases zs with
  | nil => simp [cutNum] at h
  | cons c rr =>
    rw [cutNum] at h
    split at h
    · simp only [Option.some.injEq, Prod.mk.injEq] at h
      rw [← h.2, List.length_drop, List.length_cons]; omega
    · cases h
theorem cutInt_len (zs : List Int) (v : Int) (r : List Int) (h : cutInt zs = some (v, r)) : r.length ≤ zs.length := by
  cases zs with
  | nil => simp [cutInt] at h
  | cons c rr =>
    rw [cutInt] at h
    split at h
    · split at h
      · simp only [Option.some.injEq, Prod.mk.injEq] at h
        rw [← h.2, List.length_drop, List.length_cons]; omega
      · cases h
    · split at h
      · simp only [Option.some.injEq, Prod.mk.injEq] at h
        rw [← h.2, List.length_drop, List.length_cons]; omega
      · cases h
theorem cutText_len (zs t r : List Int) (h : cutText zs = some (t, r)) : r.length ≤ zs.length ∧ t.length ≤ zs.length := by
  unfold cutText at h
  cases hc : cutNum zs with
  | none => rw [hc] at h; cases h
  | some q =>
    obtain ⟨m, rr⟩ := q
    have h0 := cutNum_len zs m rr hc
    rw [hc] at h
    simp only at h
    split at h
    · simp only [Option.some.injEq, Prod.mk.injEq] at h
      rw [← h.1, ← h.2, List.length_drop, List.length_take]; omega
    · cases h
end Go.Proofs.YtgmpdifggaggdaaGreatDoor.Fld

namespace Go.Proofs.YtgmpdifggaggdaaGreatDoor.Fld
open Go.RowKit

theorem nb_i64 (x : Int) : NoByte (.int .i64 x) := fun _ h => by cases h
set_option maxHeartbeats 800000 in
theorem rint_ok (g : Nat) (zs : List Int) (w : World) (hr : Rdr w g zs false) (v : Int) (r : List Int) (h : cutInt zs = some (v, r)) (low high : Int) (hm1 : low ≤ v) (hm2 : v ≤ high) :
    Calls Tryz.prog 141 #[.pointer (some ⟨g, 0, none⟩), .int .i64 low, .int .i64 high] w (Got g w (.int .i64 v) r false) := by
  obtain ⟨A, n, cap, ht, hs, hn⟩ := hr
  have hmf : ∀ (fn : Fn) (first cap : Array Value) (w : World), (Instr.makeFunc fn first cap).run Tryz.prog w = .ok (.func fn first cap) w := fun _ _ _ _ => rfl
  have hgl := ht.lt
  have HLN := Lib.hid (cutInt_len zs v r h)
  rw [hs.1.1] at HLN
  have HF := Lib.hid (Fr.start ht (.int .i64 0) (nb_i64 0) 161 2)
  have HS := Lib.hid (hs.chg HF.out.2.2.2.2.1 ht)
  have HC := Lib.hid h
  clear ht hs h
  go_enter_defers Tryz.func141, Tryz.ntmps141
  go_wp2_with fail
  refine (unread_ok g A n cap _ HF.out.2.2.2.1).mono ?_
  rintro e w' ⟨rfl, rfl⟩
  go_wp2_with fail
  refine (cutI_ok A n cap zs _ HS.out v r HC.out).mono ?_
  rintro e W ⟨a, n1, cap1, rfl, hs1, hst⟩
  have hf := HF.out.still hst
  have c0 := hf.2.1
  have c1 := hf.cellM.1
  have c2 := hf.cellM.2
  have c3 := hf.2.2.2.1.cells.1
  have c4 := hf.2.2.2.1.cells.2.2.1
  have hf1 := hf.setM (.int .i64 v) (nb_i64 _)
  have hf2 := hf1.set0 (some a) n1 cap1
  have HF1 := Lib.hid (hf2.setM (.int .i64 v) (nb_i64 _))
  have HS1 := Lib.hid (hf2.slM (hf1.slG (hf.slM hs1 (.int .i64 v)) 0 (.slice (some a) n1 cap1)) (.int .i64 v))
  have HN1 := Lib.hid (show n1 ≤ 140737488355328 by have := hs1.1.1; have := HLN.out; omega)
  clear HF HS hst hf1 hf2 hs1 hf
  have d1 : ¬ g = w.heap.size := by omega
  have d2 : ¬ g = w.heap.size + 1 := by omega
  have d3 : ¬ w.heap.size = g := by omega
  have d4 : ¬ w.heap.size + 1 = g := by omega
  go_wp2_with (go_at_call 161; refine (demand_ok _).mono ?_; rintro e w' ⟨rfl, rfl⟩)
  clear c0 c1 c2 c3 c4
  generalize ((W.setCell _ _).setCell _ _).setCell _ _ = W4 at HF1 HS1 ⊢
  have c1 := HF1.out.cellM.1
  refine leaves_cons (f := 158) (args := #[.pointer (some ⟨w.heap.size + 1, 0, none⟩), .pointer (some ⟨w.heap.size, 0, none⟩)]) (by simp) (by simp [go_sem]) ?_
  refine (catchI_idle _ _ _).mono ?_
  rintro e u' w'' ⟨rfl, rfl, rfl⟩
  simp [Leaves, settle, results, Tryz.results141, go_sem, c1]
  exact HF1.out.done HS1.out HN1.out _

/-- the door, where the method panicked -/
theorem doorI {w W : World} {g : Nat} {x : Value} {A : Option Addr} {n cap : Nat} {bad : Bool} (hf : Fr w W g x A n cap bad) {zs : List Int} (hs : Sl W A n cap zs) (hn : n ≤ 140737488355328) (ts : Array Value) (h6 : ts[6]? = some (.pointer (some ⟨w.heap.size + 1, 0, none⟩))) :
    bodyPostD Tryz.prog Tryz.f141 (Got g w (.int .i64 0) zs true) (Exit.panic errP) { tmps := ts, defers := [{ target := Target.fn (Fn.func 158) #[.pointer (some ⟨w.heap.size + 1, 0, none⟩), .pointer (some ⟨w.heap.size, 0, none⟩)], args := #[] }] } W := by
  have hgl := hf.1
  have hf1 := hf.setM (.int .i64 0) (nb_i64 _)
  have hf2 := hf1.set1 true
  have hs2 := hf1.slG (hf.slM hs (.int .i64 0)) 1 (.bool true)
  have c1 := hf2.cellM.1
  refine leaves_cons (f := 158) (args := #[.pointer (some ⟨w.heap.size + 1, 0, none⟩), .pointer (some ⟨w.heap.size, 0, none⟩)]) (by simp) (by simp [go_sem]) ?_
  refine (catchI_panic ⟨w.heap.size + 1, 0, none⟩ ⟨w.heap.size, 0, none⟩ g x bad W hf.cellM.1 hf.cellM.2 hf.2.1 hf.2.2.2.1.cells.2.1 hf.2.2.2.1.cells.2.2.2 (by simp; omega) [] 30 (.int .i64 6)).mono ?_
  rintro e u' w'' ⟨rfl, rfl, rfl⟩
  generalize (W.setCell _ _).setCell _ _ = W4 at hf2 hs2 c1 ⊢
  simp [Leaves, settle, results, Tryz.results141, go_sem, Array.getD_eq_getD_getElem?, h6, c1]
  exact hf2.done hs2 hn _

set_option maxHeartbeats 800000 in
theorem rint_bad (g : Nat) (zs : List Int) (w : World) (bad : Bool) (hr : Rdr w g zs bad) (low high : Int) (h : bad = true ∨ cutInt zs = none ∨ ∃ v r, cutInt zs = some (v, r) ∧ (v < low ∨ high < v)) :
    Calls Tryz.prog 141 #[.pointer (some ⟨g, 0, none⟩), .int .i64 low, .int .i64 high] w (Got g w (.int .i64 0) zs true) := by
  obtain ⟨A, n, cap, ht, hs, hn⟩ := hr
  have hmf : ∀ (fn : Fn) (first cap : Array Value) (w : World), (Instr.makeFunc fn first cap).run Tryz.prog w = .ok (.func fn first cap) w := fun _ _ _ _ => rfl
  have hgl := ht.lt
  have HF := Lib.hid (Fr.start ht (.int .i64 0) (nb_i64 0) 161 2)
  have HS := Lib.hid (hs.chg HF.out.2.2.2.2.1 ht)
  have HH := Lib.hid h
  clear ht hs h
  cases bad with
  | true =>
    go_enter_defers Tryz.func141, Tryz.ntmps141
    go_wp2_with fail
    refine (unread_bad g A n cap _ HF.out.2.2.2.1).mono ?_
    rintro e w' ⟨rfl, rfl⟩
    exact doorI HF.out HS.out hn _ rfl
  | false =>
    cases hc : cutInt zs with
    | none =>
      have HC := Lib.hid hc
      clear hc
      go_enter_defers Tryz.func141, Tryz.ntmps141
      go_wp2_with fail
      refine (unread_ok g A n cap _ HF.out.2.2.2.1).mono ?_
      rintro e w' ⟨rfl, rfl⟩
      go_wp2_with fail
      refine (cutI_bad A n cap zs _ HS.out HC.out).mono ?_
      rintro e W ⟨rfl, hst⟩
      exact doorI (HF.out.still hst) (Still.sl HS.out hst) hn _ rfl
    | some q =>
      obtain ⟨v, r⟩ := q
      have hv : v < low ∨ high < v := by
        rcases HH.out with h | h | ⟨v', r', h, h'⟩
        · cases h
        · rw [hc] at h; cases h
        · rw [hc] at h; cases h; exact h'
      have HC := Lib.hid hc
      clear hc HH
      by_cases hlo : low ≤ v
      · have hhi : decide (v ≤ high) = false := by simp; omega
        go_enter_defers Tryz.func141, Tryz.ntmps141
        go_wp2_with fail
        refine (unread_ok g A n cap _ HF.out.2.2.2.1).mono ?_
        rintro e w' ⟨rfl, rfl⟩
        go_wp2_with fail
        refine (cutI_ok A n cap zs _ HS.out v r HC.out).mono ?_
        rintro e W ⟨a, n1, cap1, rfl, hs1, hst⟩
        have hf := HF.out.still hst
        have c0 := hf.2.1
        have c1 := hf.cellM.1
        have c2 := hf.cellM.2
        have HF1 := Lib.hid (hf.setM (.int .i64 v) (nb_i64 _))
        have HS1 := Lib.hid (hf.slM (Still.sl HS.out hst) (.int .i64 v))
        clear HF HS hst hf
        go_wp2_with (go_at_call 161; refine (demand_bad _).mono ?_; rintro e w' ⟨rfl, rfl⟩)
        exact doorI HF1.out HS1.out hn _ rfl
      · have hlo2 : decide (low ≤ v) = false := by simp; omega
        go_enter_defers Tryz.func141, Tryz.ntmps141
        go_wp2_with fail
        refine (unread_ok g A n cap _ HF.out.2.2.2.1).mono ?_
        rintro e w' ⟨rfl, rfl⟩
        go_wp2_with fail
        refine (cutI_ok A n cap zs _ HS.out v r HC.out).mono ?_
        rintro e W ⟨a, n1, cap1, rfl, hs1, hst⟩
        have hf := HF.out.still hst
        have c0 := hf.2.1
        have c1 := hf.cellM.1
        have c2 := hf.cellM.2
        have HF1 := Lib.hid (hf.setM (.int .i64 v) (nb_i64 _))
        have HS1 := Lib.hid (hf.slM (Still.sl HS.out hst) (.int .i64 v))
        clear HF HS hst hf
        go_wp2_with (go_at_call 161; refine (demand_bad _).mono ?_; rintro e w' ⟨rfl, rfl⟩)
        exact doorI HF1.out HS1.out hn _ rfl
end Go.Proofs.YtgmpdifggaggdaaGreatDoor.Fld

namespace Go.Proofs.YtgmpdifggaggdaaGreatDoor.Fld
open Go.RowKit

theorem nb_sl (A : Option Addr) (n cap : Nat) : NoByte (.slice A n cap) := fun _ h => by cases h
/-- a text that was read, in memory that the call made, and the reader behind it -/
def GotT (g : Nat) (w : World) (t zs : List Int) (bad : Bool) (e : Ending) (w' : World) : Prop := ∃ A n cap, e = .returned (.slice A n cap) ∧ Sl w' A n cap t ∧ Chg g w w' ∧ Rdr w' g zs bad

set_option maxHeartbeats 800000 in
theorem rtext_ok (g : Nat) (zs : List Int) (w : World) (hr : Rdr w g zs false) (t r : List Int) (h : cutText zs = some (t, r)) (most : Int) (hm : (t.length : Int) ≤ most) :
    Calls Tryz.prog 142 #[.pointer (some ⟨g, 0, none⟩), .int .i64 most] w (GotT g w t r false) := by
  obtain ⟨A, n, cap, ht, hs, hn⟩ := hr
  have hmf : ∀ (fn : Fn) (first cap : Array Value) (w : World), (Instr.makeFunc fn first cap).run Tryz.prog w = .ok (.func fn first cap) w := fun _ _ _ _ => rfl
  have hgl := ht.lt
  have HLN := Lib.hid (cutText_len zs t r h)
  rw [hs.1.1] at HLN
  have HF := Lib.hid (Fr.start ht (.slice none 0 0) (nb_sl _ _ _) 161 45)
  have HS := Lib.hid (hs.chg HF.out.2.2.2.2.1 ht)
  have HC := Lib.hid h
  clear ht hs h
  go_enter_defers Tryz.func142, Tryz.ntmps142
  go_wp2_with fail
  refine (unread_ok g A n cap _ HF.out.2.2.2.1).mono ?_
  rintro e w' ⟨rfl, rfl⟩
  go_wp2_with fail
  refine (cutT_ok A n cap zs _ HS.out t r HC.out).mono ?_
  rintro e W ⟨a, n1, cap1, a2, n2, cap2, rfl, hs1, hs2, hst⟩
  have hf := HF.out.still hst
  have c0 := hf.2.1
  have c1 := hf.cellM.1
  have c2 := hf.cellM.2
  have c3 := hf.2.2.2.1.cells.1
  have c4 := hf.2.2.2.1.cells.2.2.1
  have hcm := hs1.1.2.1
  unfold maxLen at hcm
  have hmi : (n1 : Int) ≤ most := by have := hs1.1.1; omega
  have hf1 := hf.setM (.slice (some a) n1 cap1) (nb_sl _ _ _)
  have HF2 := Lib.hid (hf1.set0 (some a2) n2 cap2)
  have HS1 := Lib.hid (hf1.slG (hf.slM hs1 (.slice (some a) n1 cap1)) 0 (.slice (some a2) n2 cap2))
  have HS2 := Lib.hid (hf1.slG (hf.slM hs2 (.slice (some a) n1 cap1)) 0 (.slice (some a2) n2 cap2))
  have HN1 := Lib.hid (show n1 ≤ 140737488355328 by have := hs1.1.1; have := HLN.out; omega)
  have HN2 := Lib.hid (show n2 ≤ 140737488355328 by have := hs2.1.1; have := HLN.out; omega)
  clear HF HS hst hf1 hs1 hs2 hf
  have d1 : ¬ g = w.heap.size := by omega
  have d2 : ¬ g = w.heap.size + 1 := by omega
  have d3 : ¬ w.heap.size = g := by omega
  have d4 : ¬ w.heap.size + 1 = g := by omega
  go_wp2_with (go_at_call 161; refine (demand_ok _).mono ?_; rintro e w' ⟨rfl, rfl⟩)
  clear c0 c1 c2 c3 c4
  generalize (W.setCell _ _).setCell _ _ = W5 at HF2 HS1 HS2 ⊢
  refine (clone_any (some a) n1 cap1 t _ HS1.out.1 HS1.out.2.2.2.1 HN1.out).mono ?_
  rintro e W6 ⟨v, rfl, hO⟩
  obtain ⟨A6, c6, hv6, hs6, _⟩ := hO.sl n1 HS1.out.1.1
  subst hv6
  have hf6 := HF2.out.below hO.1
  have c1 := hf6.cellM.1
  have c2 := hf6.cellM.2
  have HF7 := Lib.hid (hf6.setM (.slice A6 n1 c6) (nb_sl _ _ _))
  have HS7 := Lib.hid (hf6.slM (HS2.out.below hO.1) (.slice A6 n1 c6))
  have HT7 := Lib.hid (hf6.slM hs6 (.slice A6 n1 c6))
  clear hf6 hO hs6 HF2 HS1 HS2
  go_wp2
  clear c1 c2
  generalize W6.setCell _ _ = W7 at HF7 HS7 HT7 ⊢
  have c1 := HF7.out.cellM.1
  refine leaves_cons (f := 162) (args := #[.pointer (some ⟨w.heap.size + 1, 0, none⟩), .pointer (some ⟨w.heap.size, 0, none⟩)]) (by simp) (by simp [go_sem]) ?_
  refine (catchT_idle _ _ _).mono ?_
  rintro e u' w'' ⟨rfl, rfl, rfl⟩
  simp [Leaves, settle, results, Tryz.results142, go_sem, c1]
  exact ⟨A6, n1, c6, rfl, HT7.out, (HF7.out.done HS7.out HN2.out (.slice A6 n1 c6)).2⟩

/-- the door, where the method panicked -/
theorem doorT {w W : World} {g : Nat} {x : Value} {A : Option Addr} {n cap : Nat} {bad : Bool} (hf : Fr w W g x A n cap bad) {zs : List Int} (hs : Sl W A n cap zs) (hn : n ≤ 140737488355328) (ts : Array Value) (h4 : ts[4]? = some (.pointer (some ⟨w.heap.size + 1, 0, none⟩))) :
    bodyPostD Tryz.prog Tryz.f142 (Got g w (.slice none 0 0) zs true) (Exit.panic errP) { tmps := ts, defers := [{ target := Target.fn (Fn.func 162) #[.pointer (some ⟨w.heap.size + 1, 0, none⟩), .pointer (some ⟨w.heap.size, 0, none⟩)], args := #[] }] } W := by
  have hgl := hf.1
  have hf1 := hf.setM (.slice none 0 0) (nb_sl _ _ _)
  have hf2 := hf1.set1 true
  have hs2 := hf1.slG (hf.slM hs (.slice none 0 0)) 1 (.bool true)
  have c1 := hf2.cellM.1
  refine leaves_cons (f := 162) (args := #[.pointer (some ⟨w.heap.size + 1, 0, none⟩), .pointer (some ⟨w.heap.size, 0, none⟩)]) (by simp) (by simp [go_sem]) ?_
  refine (catchT_panic ⟨w.heap.size + 1, 0, none⟩ ⟨w.heap.size, 0, none⟩ g x bad W hf.cellM.1 hf.cellM.2 hf.2.1 hf.2.2.2.1.cells.2.1 hf.2.2.2.1.cells.2.2.2 (by simp; omega) [] 30 (.int .i64 6)).mono ?_
  rintro e u' w'' ⟨rfl, rfl, rfl⟩
  generalize (W.setCell _ _).setCell _ _ = W4 at hf2 hs2 c1 ⊢
  simp [Leaves, settle, results, Tryz.results142, go_sem, Array.getD_eq_getD_getElem?, h4, c1]
  exact hf2.done hs2 hn _

set_option maxHeartbeats 800000 in
theorem rtext_bad (g : Nat) (zs : List Int) (w : World) (bad : Bool) (hr : Rdr w g zs bad) (most : Int) (h : bad = true ∨ cutText zs = none ∨ ∃ t r, cutText zs = some (t, r) ∧ most < (t.length : Int)) :
    Calls Tryz.prog 142 #[.pointer (some ⟨g, 0, none⟩), .int .i64 most] w (Got g w (.slice none 0 0) zs true) := by
  obtain ⟨A, n, cap, ht, hs, hn⟩ := hr
  have hmf : ∀ (fn : Fn) (first cap : Array Value) (w : World), (Instr.makeFunc fn first cap).run Tryz.prog w = .ok (.func fn first cap) w := fun _ _ _ _ => rfl
  have hgl := ht.lt
  have HF := Lib.hid (Fr.start ht (.slice none 0 0) (nb_sl _ _ _) 161 45)
  have HS := Lib.hid (hs.chg HF.out.2.2.2.2.1 ht)
  have HH := Lib.hid h
  clear ht hs h
  cases bad with
  | true =>
    go_enter_defers Tryz.func142, Tryz.ntmps142
    go_wp2_with fail
    refine (unread_bad g A n cap _ HF.out.2.2.2.1).mono ?_
    rintro e w' ⟨rfl, rfl⟩
    exact doorT HF.out HS.out hn _ rfl
  | false =>
    cases hc : cutText zs with
    | none =>
      have HC := Lib.hid hc
      clear hc
      go_enter_defers Tryz.func142, Tryz.ntmps142
      go_wp2_with fail
      refine (unread_ok g A n cap _ HF.out.2.2.2.1).mono ?_
      rintro e w' ⟨rfl, rfl⟩
      go_wp2_with fail
      refine (cutT_bad A n cap zs _ HS.out HC.out).mono ?_
      rintro e W ⟨rfl, hst⟩
      exact doorT (HF.out.still hst) (Still.sl HS.out hst) hn _ rfl
    | some q =>
      obtain ⟨t, r⟩ := q
      have hv : most < (t.length : Int) := by
        rcases HH.out with h | h | ⟨v', r', h, h'⟩
        · cases h
        · rw [hc] at h; cases h
        · rw [hc] at h; cases h; exact h'
      have HC := Lib.hid hc
      clear hc HH
      go_enter_defers Tryz.func142, Tryz.ntmps142
      go_wp2_with fail
      refine (unread_ok g A n cap _ HF.out.2.2.2.1).mono ?_
      rintro e w' ⟨rfl, rfl⟩
      go_wp2_with fail
      refine (cutT_ok A n cap zs _ HS.out t r HC.out).mono ?_
      rintro e W ⟨a, n1, cap1, a2, n2, cap2, rfl, hs1, _, hst⟩
      have hcm := hs1.1.2.1
      unfold maxLen at hcm
      have hl1 := hs1.1.1
      rw [hl1] at hv
      have hf := HF.out.still hst
      have c0 := hf.2.1
      have c1 := hf.cellM.1
      have c2 := hf.cellM.2
      have HF1 := Lib.hid (hf.setM (.slice (some a) n1 cap1) (nb_sl _ _ _))
      have HS1 := Lib.hid (hf.slM (Still.sl HS.out hst) (.slice (some a) n1 cap1))
      clear HF HS hst hf
      have hmi : decide ((n1 : Int) ≤ most) = false := by simp; omega
      clear hl1 hs1
      go_wp2_with (go_at_call 161; refine (demand_bad _).mono ?_; rintro e w' ⟨rfl, rfl⟩)
      exact doorT HF1.out HS1.out hn _ rfl
end Go.Proofs.YtgmpdifggaggdaaGreatDoor.Fld
