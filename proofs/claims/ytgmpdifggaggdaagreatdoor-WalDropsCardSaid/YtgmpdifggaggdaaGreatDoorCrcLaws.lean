/-
  What the document's own Add and Sum answer, and that the laws CrcSums and CrcAdds answer true and leave all memory that was there as it was. Conditions: the slices' cells can be read (Rd).
-/
import Derived.Test.YtgmpdifggaggdaaGreatDoorCrcWalks
import Derived.Below
import Derived.Lib.SlBytesConst
import Derived.Deep.QuietTactic
import Derived.BigQuiet
namespace Go.Proofs.YtgmpdifggaggdaaGreatDoor.Crc
open Go.RowKit

theorem lt_of_cell {w : World} {a : Addr} {v : Value} (h : w.cell? a = some v) : a.block < w.heap.size := by
  rcases Nat.lt_or_ge a.block w.heap.size with h' | h'
  · exact h'
  · simp [World.cell?, Array.getElem?_eq_none h'] at h
theorem Rd.nil (w : World) : Rd w none 0 [] := ⟨rfl, by unfold maxLen; omega, fun c hc => by simp at hc, fun h => by omega⟩
theorem Rd.below {w w' : World} {A : Option Addr} {n : Nat} {zs : List Int} (h : Rd w A n zs) (hb : Below w.heap.size w w') : Rd w' A n zs := by
  obtain ⟨h1, h2, h3, h4⟩ := h
  refine ⟨h1, h2, h3, fun hn => ?_⟩
  obtain ⟨b, off, rfl, hc⟩ := h4 hn
  exact ⟨b, off, rfl, fun i hi => (hb.cell (p := ⟨b, off + i, none⟩) (lt_of_cell (hc i hi))).trans (hc i hi)⟩
theorem Rd.of_cells {w : World} {x : Addr} {len cap : Nat} {zs : List Int} (hl : len ≤ cap) (hm : cap ≤ maxLen) (hz : zs.length = cap)
    (hcell : ∀ i, i < zs.length → w.cell? (x.add i) = some (.int .u8 (zs.getD i 0))) (hwz : ∀ n ∈ zs, (Lit.int .u8 n).wf = true) : Rd w (some x) len (zs.take len) := by
  refine ⟨by rw [List.length_take]; omega, by omega, fun c hc => ?_, fun hn => ?_⟩
  · have := hwz c (List.mem_of_mem_take hc)
    simp [Lit.wf, IntKind.min, IntKind.max, IntKind.bits, IntKind.signed] at this
    omega
  · obtain ⟨b, off, spot⟩ := x
    have h0 := hcell 0 (by omega)
    have hspot : spot = none := by simpa [Addr.add] using World.cell?_spot h0
    subst hspot
    refine ⟨b, off, rfl, fun i hi => ?_⟩
    have := hcell i (by omega)
    rw [List.getD_eq_getElem?_getD, List.getElem?_take, if_pos hi, ← List.getD_eq_getElem?_getD, ← this]
    congr 1
    unfold Addr.add
    split <;> simp_all
def nine : List Int := [49, 50, 51, 52, 53, 54, 55, 56, 57]
theorem nine_sum : uv (sumS nine) = 3808858755 := by decide +kernel
def nineBlk : Obj := .cells #[.int .u8 49, .int .u8 50, .int .u8 51, .int .u8 52, .int .u8 53, .int .u8 54, .int .u8 55, .int .u8 56, .int .u8 57] 5 (9, 10)
theorem Rd.nine (w : World) : Rd (w.alloc nineBlk) (some ⟨w.heap.size, 0, none⟩) 9 nine := by
  refine ⟨rfl, by unfold maxLen; omega, by intro c hc; simp [Crc.nine] at hc; omega, fun _ => ⟨_, _, rfl, fun i hi => ?_⟩⟩
  unfold nineBlk
  rw [World.cell?_alloc_mark, Nat.zero_add]
  rcases (show i = 0 ∨ i = 1 ∨ i = 2 ∨ i = 3 ∨ i = 4 ∨ i = 5 ∨ i = 6 ∨ i = 7 ∨ i = 8 from by omega) with rfl | rfl | rfl | rfl | rfl | rfl | rfl | rfl | rfl <;> rfl


theorem one_sum : (uv (addS 0#32 [1]) != 0) = true := by decide +kernel
def oneBlk : Obj := .cells #[.int .u8 1] 5
theorem Rd.one (w : World) : Rd (w.alloc oneBlk) (some ⟨w.heap.size, 0, none⟩) 1 [1] := by
  refine ⟨rfl, by unfold maxLen; omega, by intro c hc; simp at hc; omega, fun _ => ⟨_, _, rfl, fun i hi => ?_⟩⟩
  unfold oneBlk
  rw [World.cell?_alloc_mark, Nat.zero_add]
  obtain rfl : i = 0 := by omega
  rfl


theorem u32_of_wf {n : Int} (h : (Lit.int .u32 n).wf = true) : ∃ x : BitVec 32, n = uv x := by
  simp [Lit.wf, IntKind.min, IntKind.max, IntKind.bits, IntKind.signed] at h
  exact ⟨bv n, (uv_bv n (by omega) (by omega)).symm⟩
theorem i64_of_wf {n : Int} (h : (Lit.int .i64 n).wf = true) : -9223372036854775808 ≤ n ∧ n ≤ 9223372036854775807 := by
  simp [Lit.wf, IntKind.min, IntKind.max, IntKind.bits, IntKind.signed] at h
  omega
end Go.Proofs.YtgmpdifggaggdaaGreatDoor.Crc
