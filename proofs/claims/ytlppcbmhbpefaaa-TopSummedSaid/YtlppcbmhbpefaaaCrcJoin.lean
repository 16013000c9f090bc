/-
  What skipZeros and Join of package crc, and the document's own Join, answer; that the law CrcJoins answers true and leaves memory as it was. Conditions: as each theorem states.
-/
import Derived.Test.YtlppcbmhbpefaaaCrcMatB
namespace Go.Proofs.Ytlppcbmhbpefaaa.Crc
open Go.RowKit

theorem mat_twice (D : Nat) : mat (fun x => stps D (stps D x)) = mat (stps (D + D)) := by
  congr 1; funext x; rw [stps_add]
theorem halve_odd (D m : Nat) (r : BitVec 32) (h : m % 2 = 1) : stps ((D + D) * (m / 2)) (stps D r) = stps (D * m) r := by
  rw [← stps_add]
  congr 1
  have : m = 2 * (m / 2) + 1 := by omega
  rw [Nat.add_mul]
  conv => rhs; rw [this, Nat.mul_add, ← Nat.mul_assoc, Nat.mul_comm D 2, Nat.two_mul, Nat.add_mul]
  omega
theorem halve_even (D m : Nat) (r : BitVec 32) (h : m % 2 = 0) : stps ((D + D) * (m / 2)) r = stps (D * m) r := by
  congr 1
  have : m = 2 * (m / 2) := by omega
  rw [Nat.add_mul]
  conv => rhs; rw [this, ← Nat.mul_assoc, Nat.mul_comm D 2, Nat.two_mul, Nat.add_mul]

/-- a block that holds a matrix, and below it all as it was -/
def Holds (w0 : World) (g : Nat) (D : Nat) (wr : World) : Prop := Below w0.heap.size w0 wr ∧ wr.heap[g]? = some (.cells (mat (stps D)) 57 (0, 0))
theorem Holds.below {w0 w wr : World} {g D : Nat} (h : Holds w0 g D w) (hb : Below w.heap.size w wr) : Holds w0 g D wr := by
  obtain ⟨h1, h2⟩ := h
  have lt : g < w.heap.size := by
    rcases Nat.lt_or_ge g w.heap.size with h | h
    · exact h
    · rw [Array.getElem?_eq_none h] at h2; cases h2
  exact ⟨h1.trans (hb.mono h1.size), (hb.block _ lt).trans h2⟩

def SkipRel (a : BitVec 32) (n : Nat) (w : World) (g : Nat) (r m : Value) (wr : World) : Prop :=
  ∃ (x : BitVec 32) (k D : Nat), k ≤ 1048576 ∧ m = .int .i64 k ∧ r = .int .u32 (uv x) ∧ stps (D * k) x = stps (8 * n) a ∧ Holds w g D wr

set_option maxHeartbeats 1000000 in
theorem skip_any (a : BitVec 32) (n : Nat) (hn : n ≤ 1048576) (w : World) :
    Calls Try.prog 28 #[.int .u32 (uv a), .int .i64 n] w fun e w' => e = .returned (.int .u32 (uv (stps (8 * n) a))) ∧ Below w.heap.size w w' := by
  have hone := mat_one (stps 8)
  go_enter Try.func28, Try.ntmps28
  go_wp2_with fail
  refine (zero_any _).mono ?_
  rintro e w1 ⟨rfl, hb1⟩
  have HB := Lib.hid hb1
  clear hb1
  go_wp2_with (refine wpList_store_rowTo rfl 57 _ _ rfl rfl w1.heap.size (mat (stps 8)) rfl rfl 57 _ (heap_alloc_last w1 _) (mat_info _) (by rw [mat_size]; rfl) (mat_one _) ?_)
  go_loopw [0, 1] (fun r m wr => SkipRel a n w w1.heap.size r m wr) (fun _ m _ => (intOf m).toNat)
  case atStart =>
    refine ⟨a, n, 8, hn, rfl, rfl, rfl, below_setRow (HB.out.alloc HB.out.size _) HB.out.size _, setRow_heap _ _ _ _ _ _ (heap_alloc_last w1 _)⟩
  case round =>
    obtain ⟨x, k, D, hk, rfl, rfl, hst, hH⟩ := hrel
    have HS := Lib.hid hst
    have HH := Lib.hid hH
    clear hst hH hone
    have b0 := uv_nonneg x
    have b1 := uv_le x
    by_cases hpos : 0 < k
    · by_cases hodd : k % 2 = 1
      · have ht : ((k : Int) % 2 == 1) = true := by simp; omega
        have HO := Lib.hid (halve_odd D k x hodd)
        clear hodd
        go_wp2_with (refine wpList_load_row rfl 57 _ rfl w1.heap.size rfl 57 _ (0, 0) _ HH.out.2 Try.underlying57 rfl (mat_info _) ?_)
        refine (times_any _ (linear_stps D) x _).mono ?_
        rintro e w2 ⟨rfl, rfl⟩
        have HH2 := Lib.hid (HH.out.below ((Below.refl _ _).alloc (Nat.le_refl _) (.cells (mat (stps D)) 57)))
        go_wp2_with (refine wpList_load_row rfl 57 _ rfl w1.heap.size rfl 57 _ (0, 0) _ HH2.out.2 Try.underlying57 rfl (mat_info _) ?_)
        refine (square_any _ (linear_stps D) _).mono ?_
        rintro e w2 ⟨rfl, hb2⟩
        have HH3 := Lib.hid (HH2.out.below hb2)
        clear hb2
        rw [mat_twice D]
        go_wp2_with (refine wpList_store_rowTo rfl 57 _ _ rfl rfl w1.heap.size (mat (stps (D + D))) rfl rfl 57 _ HH3.out.2 (mat_info _) (by rw [mat_size, mat_size]) (mat_one _) ?_)
        go_roundw
        case rel => exact ⟨stps D x, k / 2, D + D, by omega, by go_num, rfl, HO.out.trans HS.out, below_setRow HH3.out.1 HB.out.size _, setRow_heap _ _ _ _ _ _ HH3.out.2⟩
        case measure => simp [intOf]; omega
      · have ht : ((k : Int) % 2 == 1) = false := by simp; omega
        have HO := Lib.hid (halve_even D k x (by omega))
        clear hodd
        go_wp2_with (refine wpList_load_row rfl 57 _ rfl w1.heap.size rfl 57 _ (0, 0) _ HH.out.2 Try.underlying57 rfl (mat_info _) ?_)
        refine (square_any _ (linear_stps D) _).mono ?_
        rintro e w2 ⟨rfl, hb2⟩
        have HH3 := Lib.hid (HH.out.below hb2)
        clear hb2
        rw [mat_twice D]
        go_wp2_with (refine wpList_store_rowTo rfl 57 _ _ rfl rfl w1.heap.size (mat (stps (D + D))) rfl rfl 57 _ HH3.out.2 (mat_info _) (by rw [mat_size, mat_size]) (mat_one _) ?_)
        go_roundw
        case rel => exact ⟨x, k / 2, D + D, by omega, by go_num, rfl, HO.out.trans HS.out, below_setRow HH3.out.1 HB.out.size _, setRow_heap _ _ _ _ _ _ HH3.out.2⟩
        case measure => simp [intOf]; omega
    · obtain rfl : k = 0 := by omega
      go_wp2
      go_ret
      exact ⟨retu (by rw [← HS.out, Nat.mul_zero]; rfl), HH.out.1⟩

set_option maxHeartbeats 400000 in
theorem join_ok (a b : BitVec 32) (n : Nat) (hn : n ≤ 1048576) (w : World) :
    Calls Try.prog 19 #[.int .u32 (uv a), .int .u32 (uv b), .int .i64 n] w fun e w' => e = .returned (.tuple #[.int .u32 (uv (stps (8 * n) a ^^^ b)), .int .i64 0]) ∧ Below w.heap.size w w' := by
  have H := Lib.hid (skip_any a n hn w)
  have HX := Lib.hid (xor_uv (stps (8 * n) a) b)
  have h1 : ¬ (1048576 : Int) < (n : Int) := by omega
  have b0 := uv_nonneg a
  have b1 := uv_le a
  have b2 := uv_nonneg b
  have b3 := uv_le b
  go_enter Try.func19, Try.ntmps19
  go_wp2_with fail
  refine H.out.mono ?_
  rintro e w1 ⟨rfl, hb1⟩
  have HB := Lib.hid hb1
  clear hb1
  go_wp2
  go_ret2
  exact ⟨by rw [HX.out]; rfl, HB.out⟩

set_option maxHeartbeats 400000 in
theorem join_bad (a b : BitVec 32) (n : Int) (hn : n < 0 ∨ 1048576 < n) (w : World) :
    Calls Try.prog 19 #[.int .u32 (uv a), .int .u32 (uv b), .int .i64 n] w fun e w' => e = .returned (.tuple #[.int .u32 0, .int .i64 1]) ∧ w = w' := by
  rcases hn with hn | hn
  · go_enter Try.func19, Try.ntmps19
    go_wp2
    go_ret2
    exact ⟨rfl, rfl⟩
  · have h0 : ¬ n < 0 := by omega
    go_enter Try.func19, Try.ntmps19
    go_wp2
    go_ret2
    exact ⟨rfl, rfl⟩



theorem join_one (w : World) : Calls Try.prog 19 #[.int .u32 0, .int .u32 1, .int .i64 0] w fun e w' => e = .returned (.tuple #[.int .u32 1, .int .i64 0]) ∧ Below w.heap.size w w' := by
  have h := join_ok 0#32 1#32 0 (by omega) w
  have e : uv (stps (8 * 0) 0#32 ^^^ 1#32) = 1 := by decide
  have e0 : uv (0#32) = 0 := by decide
  have e1 : uv (1#32) = 1 := by decide
  rw [e, e0, e1] at h
  exact h

end Go.Proofs.Ytlppcbmhbpefaaa.Crc
