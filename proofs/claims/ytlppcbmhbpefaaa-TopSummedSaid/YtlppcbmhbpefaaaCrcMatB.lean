/-
  What square of package crc answers (the matrix of the map applied twice), skipZeros and Join. Conditions: as each theorem states.
-/
import Derived.Test.YtlppcbmhbpefaaaCrcMat
import Derived.Deep.RegionHeld3
import Derived.Deep.RegionWith
import Derived.Deep.RegionLaw
import Derived.Deep.DeepCutAuto
namespace Go.Proofs.Ytlppcbmhbpefaaa.Crc
open Go.RowKit

theorem three_new (w : World) (A B C : Obj) : (((w.alloc A).alloc B).alloc C).heap[w.heap.size + 1 + 1]? = some C := by
  have := heap_alloc2_new (w.alloc A) B C
  simpa using this

theorem range_new {w : World} {b o : Nat} {cs : List Value} (ob : Obj) (h : w.rangeAt b o cs) : (w.alloc ob).drew.rangeAt b o cs := fun j v hv => by
  show (w.alloc ob).cell? _ = _
  rw [World.cell?_alloc_lt _ _ _ (lt_of_cell (h j v hv))]
  exact h j v hv
theorem cell_new {w : World} {a : Addr} {v : Value} (ob : Obj) (h : w.cell? a = some v) : (w.alloc ob).drew.cell? a = some v := by
  show (w.alloc ob).cell? _ = _
  rw [World.cell?_alloc_lt _ _ _ (lt_of_cell h)]
  exact h
theorem range_far {w : World} {b o : Nat} {cs : List Value} (p : Addr) (u : Value) (h : w.rangeAt b o cs) (hp : b ≠ p.block) : (w.setCell p u).rangeAt b o cs := fun j v hv => by
  rw [World.cell?_setCell_other w p _ u (fun e => hp (by rw [e]))]
  exact h j v hv
theorem cell_far {w : World} {a : Addr} {v : Value} (p : Addr) (u : Value) (h : w.cell? a = some v) (hp : a.block ≠ p.block) : (w.setCell p u).cell? a = some v := by
  rw [World.cell?_setCell_other w p _ u (fun e => hp (by rw [e]))]
  exact h

theorem size_set (w : World) (a : Addr) (u : Value) : (w.setCell a u).heap.size = w.heap.size := by simp [World.setCell]

set_option maxHeartbeats 400000 in
theorem square_any (L : BitVec 32 → BitVec 32) (hL : Linear L) (w : World) :
    Calls Try.prog 35 #[.agg (mat L)] w fun e w' => e = .returned (.agg (mat (fun x => L (L x)))) ∧ Below w.heap.size w w' := by
  have HL := Lib.hid hL
  clear hL
  have hsz := mat_size L
  go_enter Try.func35, Try.ntmps35
  go_wp2
  clear hsz
  go_loopw [5] (fun i wr => ∃ k : Nat, k ≤ 32 ∧ i = .int .i64 k ∧ wr.heap[w.heap.size]? = some (.cells (mat L) 57 (0, 0)) ∧ Fill w (w.heap.size + 1) (w.heap.size + 1 + 1) (fun x => L (L x)) k wr) (fun i _ => 32 - (intOf i).toNat)
  case atStart =>
    refine ⟨0, by omega, rfl, ?_, (((Below.refl _ _).alloc (Nat.le_refl _) _).alloc (by simp) _).alloc (by simp; omega) _, ?_, ?_⟩
    · rw [_root_.Go.heap_alloc_old _ _ (by simp; omega)]; exact heap_alloc2_old _ _ _
    · refine ⟨_, ?_, (_root_.Go.heap_alloc_old _ _ (by simp)).trans (heap_alloc2_new _ _ _)⟩
      rfl
    · refine ⟨_, ?_, fun i hi => by omega, three_new _ _ _ _⟩
      rfl
  case round =>
    obtain ⟨k, hk, rfl, hN, hF⟩ := hrel
    by_cases hlt : k < 32
    · obtain ⟨⟨v, hv⟩, hz⟩ := hF.cell hlt
      have hc : wr.cell? ⟨w.heap.size, k, none⟩ = some (.int .u32 (uv (L (bit k)))) := by rw [cell_of_row _ _ _ _ _ _ hN, mat_at L k hlt]
      have hN' : wr.drew.heap[w.heap.size]? = some (.cells (mat L) 57 (0, 0)) := hN
      have HN := Lib.hid hN
      have HF := Lib.hid hF
      clear hF hN
      go_wp2_with fail
      have hu := Try.underlying57
      have hi : (Try.prog.info? 57).map (·.size) = some (mat L).toList.length := by rw [Array.length_toList]; exact mat_info L
      have hra : wr.rangeAt w.heap.size 0 (mat L).toList := fun j v hv => by rw [Nat.zero_add, cell_of_row _ _ _ _ _ _ HN.out]; simpa using hv
      have hb1 : (0 : Int) ≤ (k : Int) := by omega
      have hb2 : (k : Int) < 32 := by omega
      have hlt2 := lt_of_cell hv
      have hv2 : (wr.alloc (.cells (mat L) 57)).cell? ⟨w.heap.size + 1 + 1, k, none⟩ = some v := cell_new _ hv
      have hz2 : (wr.alloc (.cells (mat L) 57)).frozen? ⟨w.heap.size + 1 + 1, k, none⟩ = false := (World.frozen?_alloc_past _ _ _ hlt2).trans hz
      go_region_held3 (fun w' => w'.rangeAt w.heap.size 0 (mat L).toList ∧ w'.cell? ⟨w.heap.size, k, none⟩ = some (.int .u32 (uv (L (bit k))))) (first | exact ⟨by assumption, by assumption⟩ | exact ⟨range_new _ hra, cell_new _ hc⟩ | exact ⟨range_new _ (range_far _ _ hra (by show w.heap.size ≠ w.heap.size + 1 + 1; omega)), cell_new _ (cell_far _ _ hc (by show w.heap.size ≠ w.heap.size + 1 + 1; omega))⟩ | go_keep) (first | (go_at_call 34; refine (times_any _ HL.out _ _).mono ?_; rintro e w' ⟨rfl, rfl⟩))
      rename_i hheld
      have HN2 := Lib.hid (show ((wr.setCell ⟨w.heap.size + 1 + 1, k, none⟩ (.int .u32 (uv (L (L (bit k)))))).alloc (.cells (mat L) 57)).drew.heap[w.heap.size]? = some (.cells (mat L) 57 (0, 0)) from
        (_root_.Go.heap_alloc_old _ _ (by rw [size_set]; omega)).trans ((heap_setCell_other _ _ _ _ (by show w.heap.size ≠ w.heap.size + 1 + 1; omega)).trans HN.out))
      have HF2 := Lib.hid ((HF.out.step (by omega) (by omega) (by omega)).below (((Below.refl _ _).alloc (Nat.le_refl _) (.cells (mat L) 57)).drew))
      clear hheld hv2 hz2 hlt2 hb1 hb2 hra hi hu hN' hc hz hv
      go_wp2
      go_roundw
      case rel => exact ⟨k + 1, by omega, by go_num, HN2.out, HF2.out⟩
      case measure => simp [intOf]; omega
    · obtain rfl : k = 32 := by omega
      obtain ⟨hB, ⟨z, hzs, hr⟩, hg⟩ := hF.done
      have H1 := Lib.hid hr
      have H2 := Lib.hid hg
      clear hF hN hr hg
      go_wp2_with (first | (refine wpList_load_row rfl 57 _ rfl (w.heap.size + 1 + 1) rfl 57 _ (0, 0) _ H2.out Try.underlying57 rfl (mat_info _) ?_) | (refine wpList_store_rowTo rfl 57 _ _ rfl rfl (w.heap.size + 1) (mat (fun x => L (L x))) rfl rfl 57 z H1.out (mat_info _) hzs (mat_one _) ?_))
      exact bodyPost_ret (v := .agg (mat (fun x => L (L x)))) (results_cell_row (fn := Try.f35) rfl _ _ (w.heap.size + 1) 57 _ (0, 0) _ rfl (setRow_heap _ _ _ _ _ _ H1.out) Try.underlying57 rfl (mat_info _)) rfl ⟨rfl, below_setRow hB (by omega) _⟩
end Go.Proofs.Ytlppcbmhbpefaaa.Crc
