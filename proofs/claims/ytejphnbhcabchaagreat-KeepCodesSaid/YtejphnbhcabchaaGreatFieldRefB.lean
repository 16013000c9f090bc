/-
  What the document's own reader's next answers where a whole code stands next, and where it begins with a zero byte. Conditions: the reader lies in memory as it was made (Three), its bytes can be read.
-/
import Derived.Test.YtejphnbhcabchaaGreatFieldRef
import Derived.Test.YtejphnbhcabchaaGreatFieldCut
namespace Go.Proofs.YtejphnbhcabchaaGreat.Fld
open Go.RowKit
theorem mul_wrap (v : Nat) (h : v < 72057594037927936) : IntKind.u64.wrap ((v : Int) * 256) = (v : Int) * 256 := by
  rw [IntKind.wrap_u64]; omega
theorem sum_wrap (v : Nat) (c : Int) (h : v < 72057594037927936) (h0 : 0 ≤ c) (h1 : c ≤ 255) : IntKind.u64.wrap ((v : Int) * 256 + c) = (v : Int) * 256 + c := by
  rw [IntKind.wrap_u64]; omega

set_option maxRecDepth 100000 in
set_option maxHeartbeats 1600000 in
theorem next_pos_lead (h b off n cap p c : Nat) (w : World) (t : Three w h (some ⟨b, off, none⟩) n cap p false) (hp : p < n) (hm : n ≤ 140737488351232) (c0 : w.cell? ⟨b, off + p, none⟩ = some (.int .u8 (c : Int))) (h8 : c ≤ 8) (hl : p + 1 + c ≤ n) (hcp : 0 < c) (c1 : w.cell? ⟨b, off + (p + 1), none⟩ = some (.int .u8 0)) :
    Calls Tryz.prog 91 #[.pointer (some ⟨h, 0, none⟩)] w (NextIs w 0 false 0) := by
  obtain ⟨t0, t1, t2, _, _⟩ := t.cells
  clear t
  have hwc : IntKind.i64.wrap (c : Int) = (c : Int) := IntWalk.i64_in _ (by omega)
  have d2 : decide ((16 : Int) ≤ (c : Int)) = false := by simp; omega
  have d1 : decide (n ≤ p) = false := by simp; omega
  have i1 : (p : Int) < (n : Int) := by omega
  have i0 : (0 : Int) ≤ (p : Int) := by omega
  have d3 : decide ((8 : Int) < (c : Int)) = false := by simp; omega
  have d4 : decide ((n : Int) < (p : Int) + 1 + (c : Int)) = false := by simp; omega
  have w1 : IntKind.i64.wrap ((p : Int) + 1) = (p : Int) + 1 := IntWalk.i64_in _ (by omega)
  have w2 : IntKind.i64.wrap ((p : Int) + 1 + (c : Int)) = (p : Int) + 1 + (c : Int) := IntWalk.i64_in _ (by omega)
  have d5 : ((c : Int) == 0) = false := by simp; omega
  have d6 : (0 : Int) < (c : Int) := by omega
  have i2 : (p : Int) + 1 < (n : Int) := by omega
  have i3 : (0 : Int) ≤ (p : Int) + 1 := by omega
  have i4 : ((p : Int) + 1).toNat = p + 1 := by omega
  go_enter Tryz.func91, Tryz.ntmps91
  go_wp2_with fail
  go_quiet (fail)
  go_wp2_with fail
  go_quiet (fail)
  go_wp2_with fail
  go_quiet (fail)
  go_wp2
  go_ret3
  exact ⟨rfl, Still.drewN (Still.refl _) _⟩

/-- the round of next -/
def NR (w : World) (r : List Int) (c : Nat) (v i : Value) (wr : World) : Prop := ∃ j : Nat, j ≤ c ∧ i = .int .i64 (j : Int) ∧ v = .int .u64 ((val (r.take j) : Nat) : Int) ∧ Still w wr

set_option maxRecDepth 100000 in
set_option maxHeartbeats 1600000 in
theorem next_pos_zero (h b off n cap p c : Nat) (r : List Int) (w : World) (t : Three w h (some ⟨b, off, none⟩) n cap p false) (hp : p < n) (hm : n ≤ 140737488351232) (c0 : w.cell? ⟨b, off + p, none⟩ = some (.int .u8 (c : Int))) (h8 : c ≤ 8) (hl : p + 1 + c ≤ n) (hlr : r.length = n - (p + 1)) (hby : Bytes r) (hcs : ∀ j, j < c → w.cell? ⟨b, off + (p + 1 + j), none⟩ = some (.int .u8 (r.getD j 0))) (hz : c = 0) :
    Calls Tryz.prog 91 #[.pointer (some ⟨h, 0, none⟩)] w (NextIs w (val (r.take c) : Nat) false ((c : Int) + 1)) := by
  obtain ⟨t0, t1, t2, _, _⟩ := t.cells
  clear t
  have hwc : IntKind.i64.wrap (c : Int) = (c : Int) := IntWalk.i64_in _ (by omega)
  have d2 : decide ((16 : Int) ≤ (c : Int)) = false := by simp; omega
  have d1 : decide (n ≤ p) = false := by simp; omega
  have i1 : (p : Int) < (n : Int) := by omega
  have i0 : (0 : Int) ≤ (p : Int) := by omega
  have HC := Lib.hid hcs
  have HBY := Lib.hid hby
  have HLR := Lib.hid hlr
  clear hcs hby hlr
  have HZ := Lib.hid hz
  have d3 : decide ((8 : Int) < (c : Int)) = false := by simp; omega
  have d4 : decide ((n : Int) < (p : Int) + 1 + (c : Int)) = false := by simp; omega
  have w1 : IntKind.i64.wrap ((p : Int) + 1) = (p : Int) + 1 := IntWalk.i64_in _ (by omega)
  have w2 : IntKind.i64.wrap ((p : Int) + 1 + (c : Int)) = (p : Int) + 1 + (c : Int) := IntWalk.i64_in _ (by omega)
  have d5 : decide ((0 : Int) < (c : Int)) = false := by simp; omega
  have d6 : ((c : Int) == 0) = true := by simp; omega
  have d7 : decide (0 < c) = false := by simp; omega
  clear hz
  go_enter Tryz.func91, Tryz.ntmps91
  go_wp2_with fail
  go_quiet (fail)
  go_wp2_with fail
  go_quiet (fail)
  go_wp2_with fail
  go_quiet (fail)
  clear d7 d5 d6 d1 d2 d3 d4 w1 w2 i0 i1 c0
  go_wp2_with fail
  go_loopw [7, 8] (fun v i wr => NR w r c v i wr) (fun _ i _ => c - (intOf i).toNat)
  case atStart => exact ⟨0, by omega, rfl, rfl, Still.drewN (Still.refl _) _⟩
  case round =>
    obtain ⟨j, hj, rfl, rfl, hst⟩ := hrel
    have s0 := (hst.cell _).trans t0
    have s1 := (hst.cell _).trans t1
    have HST := Lib.hid hst
    clear hst
    by_cases hlt : j < c
    · have hcj := HC.out j hlt
      have hby := getD_byte HBY.out j (by rw [HLR.out]; omega)
      have HVT := Lib.hid (val_take r j (by rw [HLR.out]; omega))
      have hvl : val (r.take j) < 72057594037927936 := by
        have g1 := val_lt j (r.take j) (by rw [List.length_take, HLR.out]; omega) (bytes_take HBY.out j)
        have g2 : (256 : Nat) ^ j ≤ 256 ^ 7 := Nat.pow_le_pow_right (by omega) (by omega)
        have g3 : (256 : Nat) ^ 7 = 72057594037927936 := by decide
        omega
      generalize r.getD j 0 = d at hcj hby HVT
      generalize val (r.take j) = v at HVT hvl
      have s2 := (HST.out.cell _).trans hcj
      clear hcj
      have i1 : (p : Int) + 1 + (j : Int) < (n : Int) := by omega
      have i2 : (0 : Int) ≤ (p : Int) + 1 + (j : Int) := by omega
      have i3 : ((p : Int) + 1 + (j : Int)).toNat = p + 1 + j := by omega
      have w1 : IntKind.i64.wrap ((p : Int) + 1) = (p : Int) + 1 := IntWalk.i64_in _ (by omega)
      have w2 : IntKind.i64.wrap ((p : Int) + 1 + (j : Int)) = (p : Int) + 1 + (j : Int) := IntWalk.i64_in _ (by omega)
      have HEQ := Lib.hid (show (v : Int) * 256 + d = ((val (r.take (j + 1)) : Nat) : Int) by rw [HVT.out]; omega)
      have w3 := mul_wrap v hvl
      have w4 := sum_wrap v d hvl hby.1 hby.2
      have w5 : IntKind.u64.wrap d = d := by rw [IntKind.wrap_u64]; omega
      go_wp2_with fail
      go_quiet (fail)
      clear w1 w2 w3 w4 w5 i1 i2 i3
      go_wp2
      go_roundw
      case rel => exact ⟨j + 1, by omega, by go_num, congrArg (Value.int .u64) HEQ.out, Still.drewN HST.out _⟩
      case measure => simp [intOf]; omega
    · obtain rfl : j = c := by omega
      go_wp2
      go_ret3
      exact ⟨rfl, HST.out⟩

set_option maxRecDepth 100000 in
set_option maxHeartbeats 1600000 in
theorem next_pos_ok (h b off n cap p c : Nat) (r : List Int) (w : World) (t : Three w h (some ⟨b, off, none⟩) n cap p false) (hp : p < n) (hm : n ≤ 140737488351232) (c0 : w.cell? ⟨b, off + p, none⟩ = some (.int .u8 (c : Int))) (h8 : c ≤ 8) (hl : p + 1 + c ≤ n) (hlr : r.length = n - (p + 1)) (hby : Bytes r) (hcs : ∀ j, j < c → w.cell? ⟨b, off + (p + 1 + j), none⟩ = some (.int .u8 (r.getD j 0))) (hcp : 0 < c) (d : Int) (c1 : w.cell? ⟨b, off + (p + 1), none⟩ = some (.int .u8 d)) (hd : (d == 0) = false) :
    Calls Tryz.prog 91 #[.pointer (some ⟨h, 0, none⟩)] w (NextIs w (val (r.take c) : Nat) false ((c : Int) + 1)) := by
  obtain ⟨t0, t1, t2, _, _⟩ := t.cells
  clear t
  have hwc : IntKind.i64.wrap (c : Int) = (c : Int) := IntWalk.i64_in _ (by omega)
  have d2 : decide ((16 : Int) ≤ (c : Int)) = false := by simp; omega
  have d1 : decide (n ≤ p) = false := by simp; omega
  have i1 : (p : Int) < (n : Int) := by omega
  have i0 : (0 : Int) ≤ (p : Int) := by omega
  have HC := Lib.hid hcs
  have HBY := Lib.hid hby
  have HLR := Lib.hid hlr
  clear hcs hby hlr
  have d3 : decide ((8 : Int) < (c : Int)) = false := by simp; omega
  have d4 : decide ((n : Int) < (p : Int) + 1 + (c : Int)) = false := by simp; omega
  have w1 : IntKind.i64.wrap ((p : Int) + 1) = (p : Int) + 1 := IntWalk.i64_in _ (by omega)
  have w2 : IntKind.i64.wrap ((p : Int) + 1 + (c : Int)) = (p : Int) + 1 + (c : Int) := IntWalk.i64_in _ (by omega)
  have d5 : ((c : Int) == 0) = false := by simp; omega
  have d6 : (0 : Int) < (c : Int) := by omega
  have i2 : (p : Int) + 1 < (n : Int) := by omega
  have i3 : (0 : Int) ≤ (p : Int) + 1 := by omega
  have i4 : ((p : Int) + 1).toNat = p + 1 := by omega
  go_enter Tryz.func91, Tryz.ntmps91
  go_wp2_with fail
  go_quiet (fail)
  go_wp2_with fail
  go_quiet (fail)
  go_wp2_with fail
  go_quiet (fail)
  clear d5 d6 i2 i3 i4 c1 hd d1 d2 d3 d4 w1 w2 i0 i1 c0
  go_wp2_with fail
  go_loopw [7, 8] (fun v i wr => NR w r c v i wr) (fun _ i _ => c - (intOf i).toNat)
  case atStart => exact ⟨0, by omega, rfl, rfl, Still.drewN (Still.refl _) _⟩
  case round =>
    obtain ⟨j, hj, rfl, rfl, hst⟩ := hrel
    have s0 := (hst.cell _).trans t0
    have s1 := (hst.cell _).trans t1
    have HST := Lib.hid hst
    clear hst
    by_cases hlt : j < c
    · have hcj := HC.out j hlt
      have hby := getD_byte HBY.out j (by rw [HLR.out]; omega)
      have HVT := Lib.hid (val_take r j (by rw [HLR.out]; omega))
      have hvl : val (r.take j) < 72057594037927936 := by
        have g1 := val_lt j (r.take j) (by rw [List.length_take, HLR.out]; omega) (bytes_take HBY.out j)
        have g2 : (256 : Nat) ^ j ≤ 256 ^ 7 := Nat.pow_le_pow_right (by omega) (by omega)
        have g3 : (256 : Nat) ^ 7 = 72057594037927936 := by decide
        omega
      generalize r.getD j 0 = d2 at hcj hby HVT
      generalize val (r.take j) = v at HVT hvl
      have s2 := (HST.out.cell _).trans hcj
      clear hcj
      have i1 : (p : Int) + 1 + (j : Int) < (n : Int) := by omega
      have i2 : (0 : Int) ≤ (p : Int) + 1 + (j : Int) := by omega
      have i3 : ((p : Int) + 1 + (j : Int)).toNat = p + 1 + j := by omega
      have w1 : IntKind.i64.wrap ((p : Int) + 1) = (p : Int) + 1 := IntWalk.i64_in _ (by omega)
      have w2 : IntKind.i64.wrap ((p : Int) + 1 + (j : Int)) = (p : Int) + 1 + (j : Int) := IntWalk.i64_in _ (by omega)
      have HEQ := Lib.hid (show (v : Int) * 256 + d2 = ((val (r.take (j + 1)) : Nat) : Int) by rw [HVT.out]; omega)
      have w3 := mul_wrap v hvl
      have w4 := sum_wrap v d2 hvl hby.1 hby.2
      have w5 : IntKind.u64.wrap d2 = d2 := by rw [IntKind.wrap_u64]; omega
      go_wp2_with fail
      go_quiet (fail)
      clear w1 w2 w3 w4 w5 i1 i2 i3
      go_wp2
      go_roundw
      case rel => exact ⟨j + 1, by omega, by go_num, congrArg (Value.int .u64) HEQ.out, Still.drewN HST.out _⟩
      case measure => simp [intOf]; omega
    · obtain rfl : j = c := by omega
      go_wp2
      go_ret3
      exact ⟨rfl, HST.out⟩

set_option maxRecDepth 100000 in
set_option maxHeartbeats 1600000 in
theorem next_neg_lead (h b off n cap p c : Nat) (w : World) (t : Three w h (some ⟨b, off, none⟩) n cap p false) (hp : p < n) (hm : n ≤ 140737488351232) (c0 : w.cell? ⟨b, off + p, none⟩ = some (.int .u8 ((c : Int) + 16))) (h8 : c ≤ 8) (hl : p + 1 + c ≤ n) (hcp : 0 < c) (c1 : w.cell? ⟨b, off + (p + 1), none⟩ = some (.int .u8 0)) :
    Calls Tryz.prog 91 #[.pointer (some ⟨h, 0, none⟩)] w (NextIs w 0 false 0) := by
  obtain ⟨t0, t1, t2, _, _⟩ := t.cells
  clear t
  have hwc : IntKind.i64.wrap ((c : Int) + 16) = (c : Int) + 16 := IntWalk.i64_in _ (by omega)
  have d2 : (16 : Int) ≤ (c : Int) + 16 := by omega
  have d1 : decide (n ≤ p) = false := by simp; omega
  have i1 : (p : Int) < (n : Int) := by omega
  have i0 : (0 : Int) ≤ (p : Int) := by omega
  have d3 : decide ((8 : Int) < (c : Int)) = false := by simp; omega
  have d4 : decide ((n : Int) < (p : Int) + 1 + (c : Int)) = false := by simp; omega
  have w1 : IntKind.i64.wrap ((p : Int) + 1) = (p : Int) + 1 := IntWalk.i64_in _ (by omega)
  have w2 : IntKind.i64.wrap ((p : Int) + 1 + (c : Int)) = (p : Int) + 1 + (c : Int) := IntWalk.i64_in _ (by omega)
  have d5 : ((c : Int) == 0) = false := by simp; omega
  have d6 : (0 : Int) < (c : Int) := by omega
  have i2 : (p : Int) + 1 < (n : Int) := by omega
  have i3 : (0 : Int) ≤ (p : Int) + 1 := by omega
  have i4 : ((p : Int) + 1).toNat = p + 1 := by omega
  go_enter Tryz.func91, Tryz.ntmps91
  go_wp2_with fail
  go_quiet (fail)
  go_wp2_with fail
  go_quiet (fail)
  go_wp2_with fail
  go_quiet (fail)
  go_wp2
  go_ret3
  exact ⟨rfl, Still.drewN (Still.refl _) _⟩

set_option maxRecDepth 100000 in
set_option maxHeartbeats 1600000 in
theorem next_neg_ok (h b off n cap p c : Nat) (r : List Int) (w : World) (t : Three w h (some ⟨b, off, none⟩) n cap p false) (hp : p < n) (hm : n ≤ 140737488351232) (c0 : w.cell? ⟨b, off + p, none⟩ = some (.int .u8 ((c : Int) + 16))) (h8 : c ≤ 8) (hl : p + 1 + c ≤ n) (hlr : r.length = n - (p + 1)) (hby : Bytes r) (hcs : ∀ j, j < c → w.cell? ⟨b, off + (p + 1 + j), none⟩ = some (.int .u8 (r.getD j 0))) (hcp : 0 < c) (d : Int) (c1 : w.cell? ⟨b, off + (p + 1), none⟩ = some (.int .u8 d)) (hd : (d == 0) = false) :
    Calls Tryz.prog 91 #[.pointer (some ⟨h, 0, none⟩)] w (NextIs w (val (r.take c) : Nat) true ((c : Int) + 1)) := by
  obtain ⟨t0, t1, t2, _, _⟩ := t.cells
  clear t
  have hwc : IntKind.i64.wrap ((c : Int) + 16) = (c : Int) + 16 := IntWalk.i64_in _ (by omega)
  have d2 : (16 : Int) ≤ (c : Int) + 16 := by omega
  have d1 : decide (n ≤ p) = false := by simp; omega
  have i1 : (p : Int) < (n : Int) := by omega
  have i0 : (0 : Int) ≤ (p : Int) := by omega
  have HC := Lib.hid hcs
  have HBY := Lib.hid hby
  have HLR := Lib.hid hlr
  clear hcs hby hlr
  have d3 : decide ((8 : Int) < (c : Int)) = false := by simp; omega
  have d4 : decide ((n : Int) < (p : Int) + 1 + (c : Int)) = false := by simp; omega
  have w1 : IntKind.i64.wrap ((p : Int) + 1) = (p : Int) + 1 := IntWalk.i64_in _ (by omega)
  have w2 : IntKind.i64.wrap ((p : Int) + 1 + (c : Int)) = (p : Int) + 1 + (c : Int) := IntWalk.i64_in _ (by omega)
  have d5 : ((c : Int) == 0) = false := by simp; omega
  have d6 : (0 : Int) < (c : Int) := by omega
  have i2 : (p : Int) + 1 < (n : Int) := by omega
  have i3 : (0 : Int) ≤ (p : Int) + 1 := by omega
  have i4 : ((p : Int) + 1).toNat = p + 1 := by omega
  go_enter Tryz.func91, Tryz.ntmps91
  go_wp2_with fail
  go_quiet (fail)
  go_wp2_with fail
  go_quiet (fail)
  go_wp2_with fail
  go_quiet (fail)
  clear d5 d6 i2 i3 i4 c1 hd d1 d2 d3 d4 w1 w2 i0 i1 c0
  go_wp2_with fail
  go_loopw [7, 8] (fun v i wr => NR w r c v i wr) (fun _ i _ => c - (intOf i).toNat)
  case atStart => exact ⟨0, by omega, rfl, rfl, Still.drewN (Still.refl _) _⟩
  case round =>
    obtain ⟨j, hj, rfl, rfl, hst⟩ := hrel
    have s0 := (hst.cell _).trans t0
    have s1 := (hst.cell _).trans t1
    have HST := Lib.hid hst
    clear hst
    by_cases hlt : j < c
    · have hcj := HC.out j hlt
      have hby := getD_byte HBY.out j (by rw [HLR.out]; omega)
      have HVT := Lib.hid (val_take r j (by rw [HLR.out]; omega))
      have hvl : val (r.take j) < 72057594037927936 := by
        have g1 := val_lt j (r.take j) (by rw [List.length_take, HLR.out]; omega) (bytes_take HBY.out j)
        have g2 : (256 : Nat) ^ j ≤ 256 ^ 7 := Nat.pow_le_pow_right (by omega) (by omega)
        have g3 : (256 : Nat) ^ 7 = 72057594037927936 := by decide
        omega
      generalize r.getD j 0 = d2 at hcj hby HVT
      generalize val (r.take j) = v at HVT hvl
      have s2 := (HST.out.cell _).trans hcj
      clear hcj
      have i1 : (p : Int) + 1 + (j : Int) < (n : Int) := by omega
      have i2 : (0 : Int) ≤ (p : Int) + 1 + (j : Int) := by omega
      have i3 : ((p : Int) + 1 + (j : Int)).toNat = p + 1 + j := by omega
      have w1 : IntKind.i64.wrap ((p : Int) + 1) = (p : Int) + 1 := IntWalk.i64_in _ (by omega)
      have w2 : IntKind.i64.wrap ((p : Int) + 1 + (j : Int)) = (p : Int) + 1 + (j : Int) := IntWalk.i64_in _ (by omega)
      have HEQ := Lib.hid (show (v : Int) * 256 + d2 = ((val (r.take (j + 1)) : Nat) : Int) by rw [HVT.out]; omega)
      have w3 := mul_wrap v hvl
      have w4 := sum_wrap v d2 hvl hby.1 hby.2
      have w5 : IntKind.u64.wrap d2 = d2 := by rw [IntKind.wrap_u64]; omega
      go_wp2_with fail
      go_quiet (fail)
      clear w1 w2 w3 w4 w5 i1 i2 i3
      go_wp2
      go_roundw
      case rel => exact ⟨j + 1, by omega, by go_num, congrArg (Value.int .u64) HEQ.out, Still.drewN HST.out _⟩
      case measure => simp [intOf]; omega
    · obtain rfl : j = c := by omega
      go_wp2
      go_ret3
      exact ⟨rfl, HST.out⟩
end Go.Proofs.YtejphnbhcabchaaGreat.Fld
