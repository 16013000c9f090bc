/-
  What the deferred functions of the reader's methods do: of a method that panics they recover, lay the result's zero and mark the reader; of one that returns they do nothing. Conditions: as each theorem states.
-/
import Derived.Test.YtejphnbhcabchaaGreatFieldCutC
import Derived.Test.YtejphnbhcabchaaGreatFieldMake
import Derived.Defers
import Derived.Recover
import Derived.Laws.Pointers
namespace Go.Proofs.YtejphnbhcabchaaGreat.Fld
open Go.RowKit

set_option maxHeartbeats 800000 in
theorem catchN_panic (p q : Addr) (g : Nat) (x : Value) (bad : Bool) (w : World) (hp : w.cell? p = some x) (hpz : w.frozen? p = false) (hq : w.cell? q = some (.pointer (some ⟨g, 0, none⟩)))
    (hg : w.cell? ⟨g, 1, none⟩ = some (.bool bad)) (hgz : w.frozen? ⟨g, 1, none⟩ = false) (hpg : p.block ≠ g) (older : List PanicEntry) (u : TypeId) (pv : Value) :
    CallsD Tryz.prog 124 #[.pointer (some p), .pointer (some q)] (.panicking ({ v := .iface u pv, recovered := false } :: older)) w fun e u' w' =>
      e = .returned (.tuple #[]) ∧ u' = .panicking ({ v := .iface u pv, recovered := true } :: older) ∧ w' = (w.setCell p (.int .u64 0)).setCell ⟨g, 1, none⟩ (.bool true) := by
  have hg1 : (w.setCell p (.int .u64 0)).cell? ⟨g, 1, none⟩ = some (.bool bad) := (World.cell?_of_block (w := w) (Below.heap_setCell w p _ g (Ne.symm hpg))).trans hg
  refine callsD_of_wpS Tryz.func124 rfl fun c₀ cs hu => ?_
  apply wpS_seq
  apply wpS_region
  simp [wpOpsS, go_sem, recoverD, hu, Tryz.ntmps124, Exit.thenS]
  refine wpS_cond (t := true) (by simp [Act.eval, Array.replicate]) ?_
  simp only [if_true]
  apply wpS_region
  simp [wpOpsS, go_sem, hp, hpz, hq, hg1, hgz, bodyPostS, results, Tryz.results124]
theorem catchN_idle (p q : Addr) (w : World) :
    CallsD Tryz.prog 124 #[.pointer (some p), .pointer (some q)] .returning w fun e u' w' => e = .returned (.tuple #[]) ∧ u' = .returning ∧ w' = w := by
  refine callsD_of_wpS Tryz.func124 rfl fun c₀ cs hu => ?_
  apply wpS_seq
  apply wpS_region
  simp [wpOpsS, go_sem, recoverD, hu, Tryz.ntmps124, Exit.thenS]
  refine wpS_cond (t := false) (by simp [Act.eval, Array.replicate]) ?_
  simp only [Bool.false_eq_true, if_false]
  refine wpS_of_wp (wp_skip ?_)
  cases c₀
  simp_all [bodyPostS, results, Tryz.results124]

set_option maxHeartbeats 800000 in
theorem catchT_panic (p q : Addr) (g : Nat) (x : Value) (bad : Bool) (w : World) (hp : w.cell? p = some x) (hpz : w.frozen? p = false) (hq : w.cell? q = some (.pointer (some ⟨g, 0, none⟩)))
    (hg : w.cell? ⟨g, 1, none⟩ = some (.bool bad)) (hgz : w.frozen? ⟨g, 1, none⟩ = false) (hpg : p.block ≠ g) (older : List PanicEntry) (u : TypeId) (pv : Value) :
    CallsD Tryz.prog 98 #[.pointer (some p), .pointer (some q)] (.panicking ({ v := .iface u pv, recovered := false } :: older)) w fun e u' w' =>
      e = .returned (.tuple #[]) ∧ u' = .panicking ({ v := .iface u pv, recovered := true } :: older) ∧ w' = (w.setCell p (.slice none 0 0)).setCell ⟨g, 1, none⟩ (.bool true) := by
  have hg1 : (w.setCell p (.slice none 0 0)).cell? ⟨g, 1, none⟩ = some (.bool bad) := (World.cell?_of_block (w := w) (Below.heap_setCell w p _ g (Ne.symm hpg))).trans hg
  refine callsD_of_wpS Tryz.func98 rfl fun c₀ cs hu => ?_
  apply wpS_seq
  apply wpS_region
  simp [wpOpsS, go_sem, recoverD, hu, Tryz.ntmps98, Exit.thenS]
  refine wpS_cond (t := true) (by simp [Act.eval, Array.replicate]) ?_
  simp only [if_true]
  apply wpS_region
  simp [wpOpsS, go_sem, hp, hpz, hq, hg1, hgz, bodyPostS, results, Tryz.results98]
theorem catchT_idle (p q : Addr) (w : World) :
    CallsD Tryz.prog 98 #[.pointer (some p), .pointer (some q)] .returning w fun e u' w' => e = .returned (.tuple #[]) ∧ u' = .returning ∧ w' = w := by
  refine callsD_of_wpS Tryz.func98 rfl fun c₀ cs hu => ?_
  apply wpS_seq
  apply wpS_region
  simp [wpOpsS, go_sem, recoverD, hu, Tryz.ntmps98, Exit.thenS]
  refine wpS_cond (t := false) (by simp [Act.eval, Array.replicate]) ?_
  simp only [Bool.false_eq_true, if_false]
  refine wpS_of_wp (wp_skip ?_)
  cases c₀
  simp_all [bodyPostS, results, Tryz.results98]
end Go.Proofs.YtejphnbhcabchaaGreat.Fld
