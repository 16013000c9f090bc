/-
  What the functions of package crc over matrices answer: times maps a number, zeroByte and square give the matrices of the maps that they should, skipZeros steps over zero bytes, and Join puts two sums together. Conditions: as each theorem states.
-/
import Derived.Test.YtlppcbmhbpefaaaCrcLaws
import Derived.Deep.WholeRow
import Derived.Deep.MidRow
import Derived.Great.BuildSlice
import Derived.Laws.Rows
namespace Go.Proofs.Ytlppcbmhbpefaaa.Crc
open Go.RowKit

/-- the matrix of a map: its values at the 32 bits -/
def mat (L : BitVec 32 → BitVec 32) : Array Value := Array.ofFn (n := 32) fun i => .int .u32 (uv (L (bit i)))
theorem mat_size (L : BitVec 32 → BitVec 32) : (mat L).size = 32 := by unfold mat; simp
theorem mat_at (L : BitVec 32 → BitVec 32) (i : Nat) (h : i < 32) : (mat L)[i]? = some (.int .u32 (uv (L (bit i)))) := by unfold mat; simp [h]
theorem mat_cell (w : World) (L : BitVec 32 → BitVec 32) (t : TypeId) (i : Nat) (h : i < 32) : (w.alloc (.cells (mat L) t)).cell? ⟨w.heap.size, i, none⟩ = some (.int .u32 (uv (L (bit i)))) := by
  rw [World.cell?_alloc_mark, mat_at L i h]

theorem bit_and (r : BitVec 32) (k : Nat) : (bits .and .u32 (uv r / 2 ^ k) 1 == 1) = r.getLsbD k := by
  have h0 : (0 : Int) ≤ uv r / 2 ^ k := Int.ediv_nonneg (uv_nonneg r) (Int.le_of_lt (Int.pow_pos (by decide)))
  have h1 : uv r / 2 ^ k < 4294967296 := Int.lt_of_le_of_lt (Int.ediv_le_self _ (uv_nonneg r)) (uv_lt r)
  rw [u32_and _ _ h0 h1 (by decide) (by decide), Bool.eq_iff_iff, bit_test]
  have : (1 : Int).toNat = 1 := rfl
  rw [this, Nat.and_one_is_mod]
  simp
  omega

set_option maxHeartbeats 400000 in
theorem times_any (L : BitVec 32 → BitVec 32) (hL : Linear L) (r : BitVec 32) (w : World) :
    Calls Try.prog 34 #[.agg (mat L), .int .u32 (uv r)] w fun e w' => e = .returned (.int .u32 (uv (L r))) ∧ w.alloc (.cells (mat L) 57) = w' := by
  have HL := Lib.hid hL
  clear hL
  have b0 := uv_nonneg r
  have b1 := uv_le r
  have hsz := mat_size L
  go_enter Try.func34, Try.ntmps34
  go_wp2
  go_loop [5, 7] (fun p i => ∃ k : Nat, k ≤ 32 ∧ i = .int .i64 k ∧ p = .int .u32 (uv (L (low r k)))) (fun _ i => 32 - (intOf i).toNat)
  case atStart => exact ⟨0, by omega, rfl, by rw [low_zero, HL.out.zero]; rfl⟩
  case round =>
    obtain ⟨k, hk, rfl, rfl⟩ := hrel
    clear hsz
    by_cases hlt : k < 32
    · have hc := mat_cell w L 57 k hlt
      have hb := bit_and r k
      cases hg : r.getLsbD k
      · rw [hg] at hb
        have HF := Lib.hid (linear_low_no (L := L) r k hlt hg)
        clear hg
        go_wp2
        go_round
        case rel => exact ⟨k + 1, by omega, by go_num, int32 HF.out.symm⟩
        case measure => simp [intOf]; omega
      · rw [hg] at hb
        have HF := Lib.hid (linear_low_yes HL.out r k hlt hg)
        clear hg
        go_wp2
        go_round
        case rel => exact ⟨k + 1, by omega, by go_num, intu (by rw [xor_uv, HF.out])⟩
        case measure => simp [intOf]; omega
    · obtain rfl : k = 32 := by omega
      go_wp2
      go_ret
      exact ⟨retu (by rw [low_all]), rfl⟩

theorem bit_shl (i : Nat) (h : i < 32) : (2 : Int) ^ i % 4294967296 = uv (bit i) := by
  rw [uv_bit i h]
  have : ∀ j, j < 32 → (2 : Int) ^ j % 4294967296 = 2 ^ j := by decide
  exact this i h

/-- block r has room for a matrix, and the first k places of block g hold the matrix of L; below them all is as it was -/
def Fill (w0 : World) (r g : Nat) (L : BitVec 32 → BitVec 32) (k : Nat) (wr : World) : Prop :=
  Below w0.heap.size w0 wr ∧ (∃ z : Array Value, z.size = 32 ∧ wr.heap[r]? = some (.cells z 57 (0, 0))) ∧
    ∃ cs : Array Value, cs.size = 32 ∧ (∀ i, i < k → cs[i]? = some (.int .u32 (uv (L (bit i))))) ∧ wr.heap[g]? = some (.cells cs 57 (0, 0))

theorem Fill.step {w0 wr : World} {r g k : Nat} {L : BitVec 32 → BitVec 32} (h : Fill w0 r g L k wr) (hk : k < 32) (hg : w0.heap.size ≤ g) (hrg : r ≠ g) :
    Fill w0 r g L (k + 1) (wr.setCell ⟨g, k, none⟩ (.int .u32 (uv (L (bit k))))) := by
  obtain ⟨hb, ⟨z, hz, hr⟩, cs, hs, hc, hgr⟩ := h
  refine ⟨hb.setCell (p := ⟨g, k, none⟩) hg _, ⟨z, hz, (heap_setCell_other wr ⟨g, k, none⟩ r _ hrg).trans hr⟩, _, ?_, ?_, heap_setCell_same wr g k cs _ _ hgr⟩
  · simpa using hs
  · intro i hi
    by_cases e : i = k
    · subst e; simp [hs, hk]
    · rw [Array.getElem?_setIfInBounds_ne (by omega)]; exact hc i (by omega)
theorem Fill.cell {w0 wr : World} {r g k : Nat} {L : BitVec 32 → BitVec 32} (h : Fill w0 r g L k wr) (hk : k < 32) :
    (∃ v, wr.cell? ⟨g, k, none⟩ = some v) ∧ wr.frozen? ⟨g, k, none⟩ = false := by
  obtain ⟨_, _, cs, hs, _, hgr⟩ := h
  exact ⟨⟨cs[k], by rw [cell_of_row wr g k cs _ (0, 0) hgr]; simp [hs, hk]⟩, frozen_of_row wr g k cs _ hgr⟩
theorem Fill.below {w0 w wr : World} {r g k : Nat} {L : BitVec 32 → BitVec 32} (h : Fill w0 r g L k w) (hb : Below w.heap.size w wr) : Fill w0 r g L k wr := by
  obtain ⟨h1, ⟨z, hz, hr⟩, cs, hs, hc, hgr⟩ := h
  have lt : ∀ (i : Nat) (o : Obj), w.heap[i]? = some o → i < w.heap.size := by
    intro i o hi
    rcases Nat.lt_or_ge i w.heap.size with h | h
    · exact h
    · rw [Array.getElem?_eq_none h] at hi; cases hi
  exact ⟨h1.trans (hb.mono h1.size), ⟨z, hz, (hb.block _ (lt _ _ hr)).trans hr⟩, cs, hs, hc, (hb.block _ (lt _ _ hgr)).trans hgr⟩
theorem mat_of {cs : Array Value} {L : BitVec 32 → BitVec 32} (hs : cs.size = 32) (hc : ∀ i, i < 32 → cs[i]? = some (.int .u32 (uv (L (bit i))))) : cs = mat L := by
  apply Array.ext_getElem?
  intro i
  by_cases hi : i < 32
  · rw [hc i hi, mat_at L i hi]
  · rw [Array.getElem?_eq_none (by omega), Array.getElem?_eq_none (by rw [mat_size]; omega)]
theorem Fill.done {w0 wr : World} {r g : Nat} {L : BitVec 32 → BitVec 32} (h : Fill w0 r g L 32 wr) :
    Below w0.heap.size w0 wr ∧ (∃ z : Array Value, z.size = (mat L).size ∧ wr.heap[r]? = some (.cells z 57 (0, 0))) ∧ wr.heap[g]? = some (.cells (mat L) 57 (0, 0)) := by
  obtain ⟨h1, ⟨z, hz, hr⟩, cs, hs, hc, hgr⟩ := h
  rw [mat_of hs hc] at hgr
  exact ⟨h1, ⟨z, by rw [mat_size]; exact hz, hr⟩, hgr⟩
theorem mat_info (L : BitVec 32 → BitVec 32) : (Try.prog.info? 57).map (·.size) = some (mat L).size := by rw [mat_size]; kernel_rfl
theorem mat_one (L : BitVec 32 → BitVec 32) : (mat L).all (·.oneCell') = true := by
  rw [Array.all_eq_true_iff_forall_mem]
  intro v hv
  unfold mat at hv
  rw [Array.mem_ofFn] at hv
  obtain ⟨i, rfl⟩ := hv
  rfl

theorem upd_bit (i : Nat) : upd (bit i) 0 = stps 8 (bit i) := by
  unfold upd
  have : bv 0 = 0#32 := by decide
  rw [this, BitVec.xor_zero]

theorem below_setRow {B : Nat} {a w : World} (h : Below B a w) {g : Nat} (hg : B ≤ g) (cs : Array Value) : Below B a (w.setRow g cs) :=
  h.trans ⟨rfl, rfl, rfl, by simp, fun k hk => setRow_other _ _ _ _ (by omega)⟩

set_option maxHeartbeats 400000 in
theorem zero_any (w : World) :
    Calls Try.prog 33 #[] w fun e w' => e = .returned (.agg (mat (stps 8))) ∧ Below w.heap.size w w' := by
  go_enter Try.func33, Try.ntmps33
  go_wp2
  go_loopw [3] (fun i wr => ∃ k : Nat, k ≤ 32 ∧ i = .int .i64 k ∧ Fill w w.heap.size (w.heap.size + 1) (stps 8) k wr) (fun i _ => 32 - (intOf i).toNat)
  case atStart =>
    refine ⟨0, by omega, rfl, ((Below.refl _ _).alloc (Nat.le_refl _) _).alloc (by simp) _, ⟨_, rfl, heap_alloc2_old _ _ _⟩, _, rfl, fun i hi => by omega, heap_alloc2_new _ _ _⟩
  case round =>
    obtain ⟨k, hk, rfl, hF⟩ := hrel
    by_cases hlt : k < 32
    · obtain ⟨⟨v, hv⟩, hz⟩ := hF.cell hlt
      have HF := Lib.hid (hF.step hlt (by omega) (by omega))
      have HU := Lib.hid (upd_bit k)
      clear hF
      have hb := bit_shl k hlt
      go_wp2_with fail
      refine (process_any _ _ (by omega) (by omega) _).mono ?_
      rintro e w' ⟨rfl, rfl⟩
      rw [HU.out]
      clear hb
      go_wp2
      go_roundw
      case rel => exact ⟨k + 1, by omega, by go_num, HF.out⟩
      case measure => simp [intOf]; omega
    · obtain rfl : k = 32 := by omega
      obtain ⟨hB, ⟨z, hzs, hr⟩, hg⟩ := hF.done
      clear hF
      have H1 := Lib.hid hr
      have H2 := Lib.hid hg
      clear hr hg
      go_wp2_with (first | (refine wpList_load_row rfl 57 _ rfl (w.heap.size + 1) rfl 57 _ (0, 0) _ H2.out Try.underlying57 rfl (mat_info _) ?_) | (refine wpList_store_rowTo rfl 57 _ _ rfl rfl w.heap.size (mat (stps 8)) rfl rfl 57 z H1.out (mat_info _) hzs (mat_one _) ?_))
      exact bodyPost_ret (v := .agg (mat (stps 8))) (results_cell_row (fn := Try.f33) rfl _ _ w.heap.size 57 _ (0, 0) _ rfl (setRow_heap _ _ _ _ _ _ H1.out) Try.underlying57 rfl (mat_info _)) rfl ⟨rfl, below_setRow hB (Nat.le_refl _) _⟩
end Go.Proofs.Ytlppcbmhbpefaaa.Crc
