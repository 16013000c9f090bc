/-
  What the document's own reader's next answers: the number that stands next, whether it is below 0, and how many bytes its code has. Conditions: the reader lies in memory as it was made (Three), its bytes can be read.
-/
import Derived.Test.YtejphnbhcabchaaGreatFieldRdr
namespace Go.Proofs.YtejphnbhcabchaaGreat.Fld
open Go.RowKit

/-- block h holds the document's reader: its bytes, how many it has read, whether something was amiss -/
def Three (w : World) (h : Nat) (A : Option Addr) (n cap k : Nat) (bad : Bool) : Prop := w.heap[h]? = some (.cells #[.slice A n cap, .int .i64 (k : Int), .bool bad] 97 (0, 0))
theorem Three.cells {w : World} {h : Nat} {A : Option Addr} {n cap k : Nat} {bad : Bool} (t : Three w h A n cap k bad) :
    w.cell? ⟨h, 0, none⟩ = some (.slice A n cap) ∧ w.cell? ⟨h, 1, none⟩ = some (.int .i64 (k : Int)) ∧ w.cell? ⟨h, 2, none⟩ = some (.bool bad) ∧ w.frozen? ⟨h, 1, none⟩ = false ∧ w.frozen? ⟨h, 2, none⟩ = false :=
  ⟨by rw [cell_of_row w h 0 _ _ (0, 0) t]; rfl, by rw [cell_of_row w h 1 _ _ (0, 0) t]; rfl, by rw [cell_of_row w h 2 _ _ (0, 0) t]; rfl, frozen_of_row w h 1 _ _ t, frozen_of_row w h 2 _ _ t⟩
def NextIs (w : World) (v : Int) (neg : Bool) (k : Int) (e : Ending) (w' : World) : Prop := e = .returned (.tuple #[.int .u64 v, .bool neg, .int .i64 k]) ∧ Still w w'

set_option maxRecDepth 100000 in
set_option maxHeartbeats 1600000 in
theorem next_bad (h : Nat) (A : Option Addr) (n cap k : Nat) (w : World) (t : Three w h A n cap k true) : Calls Tryz.prog 91 #[.pointer (some ⟨h, 0, none⟩)] w (NextIs w 0 false 0) := by
  obtain ⟨t0, t1, t2, _, _⟩ := t.cells
  clear t
  go_enter Tryz.func91, Tryz.ntmps91
  go_wp2_with fail
  go_quiet (fail)
  go_wp2
  go_ret3
  exact ⟨rfl, Still.drewN (Still.refl _) _⟩
set_option maxRecDepth 100000 in
set_option maxHeartbeats 1600000 in
theorem next_end (h : Nat) (A : Option Addr) (n cap k : Nat) (w : World) (t : Three w h A n cap k false) (hk : n ≤ k) : Calls Tryz.prog 91 #[.pointer (some ⟨h, 0, none⟩)] w (NextIs w 0 false 0) := by
  obtain ⟨t0, t1, t2, _, _⟩ := t.cells
  clear t
  have d1 : (n : Int) ≤ (k : Int) := by omega
  go_enter Tryz.func91, Tryz.ntmps91
  go_wp2_with fail
  go_quiet (fail)
  go_wp2
  go_ret3
  exact ⟨rfl, Still.drewN (Still.refl _) _⟩




set_option maxRecDepth 100000 in
set_option maxHeartbeats 1600000 in
theorem next_pos_big (h b off n cap p c : Nat) (w : World) (t : Three w h (some ⟨b, off, none⟩) n cap p false) (hp : p < n) (c0 : w.cell? ⟨b, off + p, none⟩ = some (.int .u8 (c : Int))) (hc : c < 16) (h8 : 8 < c) :
    Calls Tryz.prog 91 #[.pointer (some ⟨h, 0, none⟩)] w (NextIs w 0 false 0) := by
  obtain ⟨t0, t1, t2, _, _⟩ := t.cells
  clear t
  have hwc : IntKind.i64.wrap (c : Int) = (c : Int) := IntWalk.i64_in _ (by omega)
  have d2 : decide ((16 : Int) ≤ (c : Int)) = false := by simp; omega
  have d1 : decide (n ≤ p) = false := by simp; omega
  have i1 : (p : Int) < (n : Int) := by omega
  have i0 : (0 : Int) ≤ (p : Int) := by omega
  have d3 : (8 : Int) < (c : Int) := by omega
  go_enter Tryz.func91, Tryz.ntmps91
  go_wp2_with fail
  go_quiet (fail)
  go_wp2_with fail
  go_quiet (fail)
  go_wp2_with fail
  go_quiet (fail)
  go_wp2
  go_ret3
  exact ⟨rfl, Still.drewN (Still.refl _) _⟩

set_option maxRecDepth 100000 in
set_option maxHeartbeats 1600000 in
theorem next_pos_short (h b off n cap p c : Nat) (w : World) (t : Three w h (some ⟨b, off, none⟩) n cap p false) (hp : p < n) (hm : n ≤ 140737488351232) (c0 : w.cell? ⟨b, off + p, none⟩ = some (.int .u8 (c : Int))) (hc : c < 16) (h8 : c ≤ 8) (hs : n < p + 1 + c) :
    Calls Tryz.prog 91 #[.pointer (some ⟨h, 0, none⟩)] w (NextIs w 0 false 0) := by
  obtain ⟨t0, t1, t2, _, _⟩ := t.cells
  clear t
  have hwc : IntKind.i64.wrap (c : Int) = (c : Int) := IntWalk.i64_in _ (by omega)
  have d2 : decide ((16 : Int) ≤ (c : Int)) = false := by simp; omega
  have d1 : decide (n ≤ p) = false := by simp; omega
  have i1 : (p : Int) < (n : Int) := by omega
  have i0 : (0 : Int) ≤ (p : Int) := by omega
  have d3 : decide ((8 : Int) < (c : Int)) = false := by simp; omega
  have d4 : (n : Int) < (p : Int) + 1 + (c : Int) := by omega
  have w1 : IntKind.i64.wrap ((p : Int) + 1) = (p : Int) + 1 := IntWalk.i64_in _ (by omega)
  have w2 : IntKind.i64.wrap ((p : Int) + 1 + (c : Int)) = (p : Int) + 1 + (c : Int) := IntWalk.i64_in _ (by omega)
  go_enter Tryz.func91, Tryz.ntmps91
  go_wp2_with fail
  go_quiet (fail)
  go_wp2_with fail
  go_quiet (fail)
  go_wp2_with fail
  go_quiet (fail)
  go_wp2
  go_ret3
  exact ⟨rfl, Still.drewN (Still.refl _) _⟩

set_option maxRecDepth 100000 in
set_option maxHeartbeats 1600000 in
theorem next_neg_big (h b off n cap p c : Nat) (w : World) (t : Three w h (some ⟨b, off, none⟩) n cap p false) (hp : p < n) (c0 : w.cell? ⟨b, off + p, none⟩ = some (.int .u8 ((c : Int) + 16))) (hc : c ≤ 239) (h8 : 8 < c) :
    Calls Tryz.prog 91 #[.pointer (some ⟨h, 0, none⟩)] w (NextIs w 0 false 0) := by
  obtain ⟨t0, t1, t2, _, _⟩ := t.cells
  clear t
  have hwc : IntKind.i64.wrap ((c : Int) + 16) = (c : Int) + 16 := IntWalk.i64_in _ (by omega)
  have d2 : (16 : Int) ≤ (c : Int) + 16 := by omega
  have d1 : decide (n ≤ p) = false := by simp; omega
  have i1 : (p : Int) < (n : Int) := by omega
  have i0 : (0 : Int) ≤ (p : Int) := by omega
  have d3 : (8 : Int) < (c : Int) := by omega
  go_enter Tryz.func91, Tryz.ntmps91
  go_wp2_with fail
  go_quiet (fail)
  go_wp2_with fail
  go_quiet (fail)
  go_wp2_with fail
  go_quiet (fail)
  go_wp2
  go_ret3
  exact ⟨rfl, Still.drewN (Still.refl _) _⟩

set_option maxRecDepth 100000 in
set_option maxHeartbeats 1600000 in
theorem next_neg_short (h b off n cap p c : Nat) (w : World) (t : Three w h (some ⟨b, off, none⟩) n cap p false) (hp : p < n) (hm : n ≤ 140737488351232) (c0 : w.cell? ⟨b, off + p, none⟩ = some (.int .u8 ((c : Int) + 16))) (hc : c ≤ 239) (h8 : c ≤ 8) (hs : n < p + 1 + c) :
    Calls Tryz.prog 91 #[.pointer (some ⟨h, 0, none⟩)] w (NextIs w 0 false 0) := by
  obtain ⟨t0, t1, t2, _, _⟩ := t.cells
  clear t
  have hwc : IntKind.i64.wrap ((c : Int) + 16) = (c : Int) + 16 := IntWalk.i64_in _ (by omega)
  have d2 : (16 : Int) ≤ (c : Int) + 16 := by omega
  have d1 : decide (n ≤ p) = false := by simp; omega
  have i1 : (p : Int) < (n : Int) := by omega
  have i0 : (0 : Int) ≤ (p : Int) := by omega
  have d3 : decide ((8 : Int) < (c : Int)) = false := by simp; omega
  have d4 : (n : Int) < (p : Int) + 1 + (c : Int) := by omega
  have w1 : IntKind.i64.wrap ((p : Int) + 1) = (p : Int) + 1 := IntWalk.i64_in _ (by omega)
  have w2 : IntKind.i64.wrap ((p : Int) + 1 + (c : Int)) = (p : Int) + 1 + (c : Int) := IntWalk.i64_in _ (by omega)
  go_enter Tryz.func91, Tryz.ntmps91
  go_wp2_with fail
  go_quiet (fail)
  go_wp2_with fail
  go_quiet (fail)
  go_wp2_with fail
  go_quiet (fail)
  go_wp2
  go_ret3
  exact ⟨rfl, Still.drewN (Still.refl _) _⟩

set_option maxRecDepth 100000 in
set_option maxHeartbeats 1600000 in
theorem next_neg_zero (h b off n cap p c : Nat) (w : World) (t : Three w h (some ⟨b, off, none⟩) n cap p false) (hp : p < n) (hm : n ≤ 140737488351232) (c0 : w.cell? ⟨b, off + p, none⟩ = some (.int .u8 ((c : Int) + 16))) (hc : c = 0) :
    Calls Tryz.prog 91 #[.pointer (some ⟨h, 0, none⟩)] w (NextIs w 0 false 0) := by
  obtain ⟨t0, t1, t2, _, _⟩ := t.cells
  clear t
  have hwc : IntKind.i64.wrap ((c : Int) + 16) = (c : Int) + 16 := IntWalk.i64_in _ (by omega)
  have d2 : (16 : Int) ≤ (c : Int) + 16 := by omega
  have d1 : decide (n ≤ p) = false := by simp; omega
  have i1 : (p : Int) < (n : Int) := by omega
  have i0 : (0 : Int) ≤ (p : Int) := by omega
  subst hc
  have d3 : decide ((8 : Int) < 0) = false := by decide
  have d4 : decide ((n : Int) < (p : Int) + 1) = false := by simp; omega
  have w1 : IntKind.i64.wrap ((p : Int) + 1) = (p : Int) + 1 := IntWalk.i64_in _ (by omega)
  go_enter Tryz.func91, Tryz.ntmps91
  go_wp2_with fail
  go_quiet (fail)
  go_wp2_with fail
  go_quiet (fail)
  go_wp2_with fail
  go_quiet (fail)
  go_wp2
  go_ret3
  exact ⟨rfl, Still.drewN (Still.refl _) _⟩
end Go.Proofs.YtejphnbhcabchaaGreat.Fld
