/-
  What the functions step, process, Add and Sum of package crc, and the document's own step, Add and Sum, answer for whatever they are called with: the register's step, and the sum of the bytes that the slice holds. Conditions: the slice's cells can be read (Rd).
-/
import Derived.Test.YtgmpdifggaggdaaGreatDoorChecked
import Derived.Test.YtgmpdifggaggdaaGreatDoorCrcMath
import Derived.WalkKit
import Derived.WalkLawsBesides
import Derived.LoopTactic
import Derived.Outline
import Derived.IntWalk
import Derived.Lib.Hide
namespace Go.Proofs.YtgmpdifggaggdaaGreatDoor.Crc
open Go.RowKit

/-- a slice that holds the bytes zs -/
def Rd (w : World) (A : Option Addr) (n : Nat) (zs : List Int) : Prop :=
  zs.length = n ∧ n ≤ maxLen ∧ Bytes zs ∧ (0 < n → ∃ b off, A = some ⟨b, off, none⟩ ∧ ∀ i, i < n → w.cell? ⟨b, off + i, none⟩ = some (.int .u8 (zs.getD i 0)))

theorem ret32 {a b : BitVec 32} (h : a = b) : Ending.returned (.int .u32 (uv a)) = .returned (.int .u32 (uv b)) := by rw [h]
theorem int32 {a b : BitVec 32} (h : a = b) : Value.int .u32 (uv a) = .int .u32 (uv b) := by rw [h]
theorem xor_uv_byte (x : BitVec 32) (c : Int) (h0 : 0 ≤ c) (h1 : c ≤ 255) : bits .xor .u32 (uv x) c = uv (x ^^^ bv c) := by
  rw [← xor_uv, uv_bv c h0 (by omega)]

theorem retu {a b : Int} (h : a = b) : Ending.returned (.int .u32 a) = .returned (.int .u32 b) := by rw [h]
theorem intu {a b : Int} (h : a = b) : Value.int .u32 a = .int .u32 b := by rw [h]
theorem stp_val_odd (x : BitVec 32) (h : uv x % 2 = 1) : bits .xor .u32 (uv x / 2) 2197175160 = uv (stp x) := by rw [half_uv, xor_uv_poly, stp_odd x h]
theorem stp_val_even (x : BitVec 32) (h : ¬ uv x % 2 = 1) : uv x / 2 = uv (stp x) := by rw [half_uv, stp_even x h]

set_option maxHeartbeats 400000 in
theorem step_any (x : BitVec 32) (w : World) : Calls Tryz.prog 175 #[.int .u32 (uv x)] w fun e w' => e = .returned (.int .u32 (uv (stp x))) ∧ w = w' := by
  have b0 := uv_nonneg x
  have b1 := uv_le x
  by_cases h : uv x % 2 = 1
  · have HS := Lib.hid (stp_val_odd x h)
    have h1 : (uv x % 2 == 1) = true := by simpa using h
    clear h
    go_enter Tryz.func175, Tryz.ntmps175
    go_wp2
    go_ret
    exact ⟨retu HS.out, rfl⟩
  · have HS := Lib.hid (stp_val_even x h)
    have h1 : (uv x % 2 == 1) = false := by simpa using h
    clear h
    go_enter Tryz.func175, Tryz.ntmps175
    go_wp2
    go_ret
    exact ⟨retu HS.out, rfl⟩

set_option maxHeartbeats 400000 in
theorem process_any (x : BitVec 32) (c : Int) (hc0 : 0 ≤ c) (hc1 : c ≤ 255) (w : World) :
    Calls Tryz.prog 170 #[.int .u32 (uv x), .int .u8 c] w fun e w' => e = .returned (.int .u32 (uv (upd x c))) ∧ w = w' := by
  have b0 := uv_nonneg x
  have b1 := uv_le x
  have hx := xor_uv_byte x c hc0 hc1
  go_enter Tryz.func170, Tryz.ntmps170
  go_wp2
  go_loop [0, 9] (fun r i => ∃ k : Nat, k ≤ 8 ∧ i = .int .i64 k ∧ r = .int .u32 (uv (stps k (x ^^^ bv c)))) (fun _ i => 8 - (intOf i).toNat)
  case atStart => exact ⟨0, by omega, rfl, rfl⟩
  case round =>
    obtain ⟨k, hk, rfl, rfl⟩ := hrel
    clear hx
    by_cases hlt : k < 8
    · go_wp2_with (go_at_call 175; refine (step_any _ _).mono ?_; rintro e w' ⟨rfl, rfl⟩)
      go_round
      case rel => exact ⟨k + 1, by omega, by go_num, int32 (stps_last k _).symm⟩
      case measure => simp [intOf]; omega
    · obtain rfl : k = 8 := by omega
      go_wp2
      go_ret
      exact ⟨rfl, rfl⟩

set_option maxHeartbeats 400000 in
theorem add_any (s : BitVec 32) (A : Option Addr) (n cap : Nat) (zs : List Int) (w : World) (h : Rd w A n zs) :
    Calls Tryz.prog 155 #[.int .u32 (uv s), .slice A n cap] w fun e w' => e = .returned (.int .u32 (uv (addS s zs))) ∧ w = w' := by
  obtain ⟨hlen, hm, hby, hcell⟩ := h
  unfold maxLen at hm
  have HL := Lib.hid hlen
  have HB := Lib.hid hby
  have HC := Lib.hid hcell
  clear hlen hby hcell
  have b0 := uv_nonneg s
  have b1 := uv_le s
  have hx := xor_uv_ones s
  go_enter Tryz.func155, Tryz.ntmps155
  go_wp2
  go_loop [5, 12] (fun r i => ∃ k : Nat, k ≤ n ∧ i = .int .i64 k ∧ r = .int .u32 (uv (feed (s ^^^ ones) (zs.take k)))) (fun _ i => n - (intOf i).toNat)
  case atStart => exact ⟨0, by omega, rfl, rfl⟩
  case round =>
    obtain ⟨k, hk, rfl, rfl⟩ := hrel
    clear hx
    by_cases hlt : k < n
    · obtain ⟨b, off, rfl, hc⟩ := HC.out (by omega)
      have hck := hc k hlt
      clear hc
      have hb := HB.out (zs.getD k 0) (by rw [List.getD_eq_getElem?_getD, List.getElem?_eq_getElem (by rw [HL.out]; exact hlt)]; simp)
      have HF := Lib.hid (feed_take (s ^^^ ones) zs k (by rw [HL.out]; exact hlt))
      generalize zs.getD k 0 = c at *
      go_wp2_with (go_at_call 170; refine (process_any _ _ hb.1 hb.2 _).mono ?_; rintro e w' ⟨rfl, rfl⟩)
      go_round
      case rel => exact ⟨k + 1, by omega, by go_num, int32 HF.out.symm⟩
      case measure => simp [intOf]; omega
    · obtain rfl : n = k := by omega
      have hx := xor_uv_ones (feed (s ^^^ ones) (zs.take n))
      go_wp2
      go_ret
      exact ⟨by rw [← HL.out, List.take_length]; rfl, rfl⟩

theorem sum_any (A : Option Addr) (n cap : Nat) (zs : List Int) (w : World) (h : Rd w A n zs) :
    Calls Tryz.prog 156 #[.slice A n cap] w fun e w' => e = .returned (.int .u32 (uv (sumS zs))) ∧ w = w' := by
  have H := Lib.hid (add_any 0#32 A n cap zs w h)
  clear h
  go_enter Tryz.func156, Tryz.ntmps156
  go_wp2_with fail
  refine H.out.mono ?_
  rintro e w' ⟨rfl, rfl⟩
  go_wp2
  go_ret
  exact ⟨rfl, rfl⟩
end Go.Proofs.YtgmpdifggaggdaaGreatDoor.Crc
