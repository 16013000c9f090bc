/-
  DiskArms: the power goes ahead of the change behind so many others; what was synced is there again. Conditions: none.
-/
import Derived.Test.YthdpdhjhpbkhaaaDiskFails
namespace Go.Proofs.Ythdpdhjhpbkhaaa.Dk
open Go.RowKit Go.Proofs.Ythdpdhjhpbkhaaa.Fld

def stA (x : Nm) (n i : Nat) : St := ⟨10000, [(x, 1 :: List.replicate (min i n) 2, 1)], decide (n < i), none, if i ≤ n then some (n - i) else none⟩
def erA (n i : Nat) : Int := if n ≤ i then 5 else 0
theorem step_A (x : Nm) (n i : Nat) (hx : okN x = true) (hn : n ≤ 100) : stAppend x [2] (stA x n i) = (erA n i, stA x n (i + 1)) := by
  unfold stAppend doing
  rw [hx]
  simp only [if_true]
  rcases Nat.lt_trichotomy i n with h | h | h
  · have e1 : chg (stA x n i) = (0, { stA x n i with arm := some (n - i - 1) }) := by
      have h1 : (if i ≤ n then some (n - i) else none) = some (n - i) := if_pos (by omega)
      have h2 : ¬ (n - i = 0) := by omega
      have h3 : decide (n < i) = false := by simp; omega
      unfold chg stA
      simp [h1, h2, h3]
    have hroom : ¬ (10000 < total [(x, (1 : Int) :: List.replicate (min i n) 2, 1)] + ([2] : List Int).length) := by
      rw [total_one]
      simp
      omega
    rw [e1]
    simp only [if_true]
    unfold app1 stA
    simp only
    rw [if_neg hroom, fget_one]
    simp only
    rw [fput_one, rep_snoc]
    unfold erA
    rw [if_neg (by omega), if_pos (by omega)]
    rw [show min (i + 1) n = min i n + 1 by omega, show n - i - 1 = n - (i + 1) by omega, show decide (n < i) = decide (n < i + 1) from decide_eq_decide.2 (by omega)]
  · subst h
    have e1 : chg (stA x i i) = (5, stA x i (i + 1)) := by
      unfold chg stA
      simp
    rw [e1]
    simp [erA]
  · have e1 : chg (stA x n i) = (5, stA x n (i + 1)) := by
      have h3 : decide (n < i) = true := by simp; omega
      unfold chg stA
      simp only [h3, if_true]
      rw [show min (i + 1) n = min i n by omega, if_neg (by omega), if_neg (by omega), show decide (n < i + 1) = true by simp; omega]
    rw [e1]
    simp [erA]
    omega
theorem second_A (x : Nm) (hx : okN x = true) : stSync x ⟨10000, [(x, [1], 0)], false, none, none⟩ = (0, ⟨10000, [(x, [1], 1)], false, none, none⟩) := by
  unfold stSync doing
  rw [hx]
  simp only [if_true]
  have e1 : chg ⟨10000, [(x, [1], 0)], false, none, none⟩ = (0, ⟨10000, [(x, [1], 0)], false, none, none⟩) := by simp [chg]
  rw [e1]
  simp only [if_true]
  unfold sync1
  simp only
  rw [fget_one]
  simp only
  rw [fput_one]
  rfl
theorem sync_bad (x : Nm) (t : St) (hx : okN x = false) : stSync x t = (1, t) := by
  unfold stSync doing
  rw [hx]
  rfl
theorem crash_A (x : Nm) (n : Nat) : stCrash [] (stA x n (n + 3)) = ⟨10000, [(x, [1], 1)], false, none, none⟩ := by
  have h : min (0 : Int) (n : Int) = 0 := by omega
  unfold stCrash stA
  simp [crashTo, crash1, stays, h]
theorem read_off (x : Nm) (n : Nat) : stRead x (stA x n (n + 3)) = (5, []) := by
  unfold stRead stA
  simp
theorem read_on (x : Nm) (hx : okN x = true) : stRead x ⟨10000, [(x, [1], 1)], false, none, none⟩ = (0, [1]) := by
  unfold stRead
  rw [hx]
  simp only [Bool.false_eq_true, if_false, if_true]
  rw [fget_one]
def AR (w0 : World) (g b : Nat) (x : Nm) (n : Nat) (i : Value) (wr : World) : Prop := ∃ k : Nat, k ≤ n + 3 ∧ i = .int .i64 (k : Int) ∧ ∃ m, Sn w0 wr g b m (stA x n k)
set_option maxRecDepth 100000 in
set_option maxHeartbeats 3200000 in
theorem arms_walk (n : Int) (s : ByteArray) (w : World) : Calls Try.prog 8 #[.int .i64 n, .string s] w fun e w' => e = .returned (.bool true) ∧ Below w.heap.size w w' := by
  have HN := Lib.hid (new_sn 10000 w (by omega) (by omega))
  cases hx : okN s.data.toList with
  | false =>
    go_enter Try.func8, Try.ntmps8
    go_wp2_with fail
    refine HN.out.mono ?_
    rintro e w1 ⟨b, g, rfl, hS⟩
    have hS2 := hS.below (w' := w1.alloc (.cells #[.int .u8 1] 5)) ((Below.refl _ _).alloc (Nat.le_refl _) _)
    have hA := app_sn hS2 s (some ⟨w1.heap.size, 0, none⟩) 1 1 [1] (by simp [st0]) (rd_one w1 1 (by omega) (by omega)) (fun h => by cases h) (by omega)
    rw [first_bad _ _ _ hx] at hA
    have HA := Lib.hid hA
    have HX := Lib.hid hx
    clear hS hS2 hA
    go_wp2_with (first | (go_at_call 16; refine HA.out.mono ?_; rintro e w2 ⟨rfl, m2, hS3⟩; have HSY := Lib.hid (sync_sn hS3 s (by simp [st0])); rw [sync_bad _ _ HX.out] at HSY; clear hS3) | (go_at_call 17; refine HSY.out.mono ?_; rintro e w3 ⟨rfl, m3, hS4⟩; have HB := Lib.hid hS4.2.1; clear hS4))
    go_ret
    exact ⟨rfl, HB.out⟩
  | true =>
    by_cases hn : 0 ≤ n ∧ n ≤ 100
    · obtain ⟨N, rfl⟩ : ∃ N : Nat, n = (N : Int) := ⟨n.toNat, by omega⟩
      have hN : N ≤ 100 := by omega
      have HX := Lib.hid hx
      have d1 : decide ((N : Int) < 0) = false := by simp
      have d2 : decide ((100 : Int) < (N : Int)) = false := by simp; omega
      go_enter Try.func8, Try.ntmps8
      go_wp2_with fail
      refine HN.out.mono ?_
      rintro e w1 ⟨b, g, rfl, hS⟩
      have hS2 := hS.below (w' := w1.alloc (.cells #[.int .u8 1] 5)) ((Below.refl _ _).alloc (Nat.le_refl _) _)
      have hA := app_sn hS2 s (some ⟨w1.heap.size, 0, none⟩) 1 1 [1] (by simp [st0]) (rd_one w1 1 (by omega) (by omega)) (fun h => by cases h) (by omega)
      rw [first_F _ hx] at hA
      have HA := Lib.hid hA
      clear hS hS2 hA
      go_wp2_with (first | (go_at_call 16; refine HA.out.mono ?_; rintro e w2 ⟨rfl, m2, hS3⟩; have HSY := Lib.hid (sync_sn hS3 s (by simp)); rw [second_A _ HX.out] at HSY; clear hS3) | (go_at_call 17; refine HSY.out.mono ?_; rintro e w3 ⟨rfl, m3, hS4⟩; have HF := Lib.hid (arm_sn hS4 (N : Int) (by omega)); clear hS4) | (go_at_call 21; refine HF.out.mono ?_; rintro e w4 ⟨rfl, m4, hS5⟩; have HS5 := Lib.hid hS5; clear hS5))
      go_loopw [9] (fun i wr => AR w g b s.data.toList N i wr) (fun i _ => N + 3 - (intOf i).toNat)
      case atStart =>
        refine ⟨0, Nat.zero_le _, rfl, m4, ?_⟩
        have := HS5.out
        unfold stArm at this
        rw [if_neg (by omega)] at this
        simpa [stA] using this
      case round =>
        obtain ⟨k, hk, rfl, m5, hS⟩ := hrel
        by_cases hlt : k < N + 3
        · have hS2 := hS.below (w' := wr.alloc (.cells #[.int .u8 2] 5)) ((Below.refl _ _).alloc (Nat.le_refl _) _)
          have hA := app_sn hS2 s (some ⟨wr.heap.size, 0, none⟩) 1 1 [2] (by simp [stA]) (rd_one wr 2 (by omega) (by omega)) (fun h => by cases h) (by omega)
          rw [step_A _ N k HX.out hN] at hA
          have HA2 := Lib.hid hA
          clear hS hS2 hA
          have i1 : (k : Int) < (N : Int) + 3 := by omega
          by_cases h : N ≤ k
          · have he : erA N k = 5 := by unfold erA; rw [if_pos h]
            have ho : (stA s.data.toList N (k + 1)).off = true := by unfold stA; simp; omega
            have j1 : decide ((N : Int) ≤ (k : Int)) = true := by simp; omega
            have HO := Lib.hid ho
            rw [he] at HA2
            clear he ho
            go_wp2_with (first | (go_at_call 16; refine HA2.out.mono ?_; rintro e w5 ⟨rfl, m5, hS5⟩; have HS6 := Lib.hid hS5; have HOF := Lib.hid (off_any g b _ w5 hS5.1.dsk); rw [HO.out] at HOF; clear hS5) | (go_at_call 22; refine HOF.out.mono ?_; rintro e w6 ⟨rfl, rfl⟩))
            go_roundw
            case rel => exact ⟨k + 1, by omega, by go_num, m5, HS6.out⟩
            case measure => simp [intOf]; omega
          · have he : erA N k = 0 := by unfold erA; rw [if_neg h]
            have ho : (stA s.data.toList N (k + 1)).off = false := by unfold stA; simp; omega
            have j1 : decide ((N : Int) ≤ (k : Int)) = false := by simp; omega
            have HO := Lib.hid ho
            rw [he] at HA2
            clear he ho
            go_wp2_with (first | (go_at_call 16; refine HA2.out.mono ?_; rintro e w5 ⟨rfl, m5, hS5⟩; have HS6 := Lib.hid hS5; have HOF := Lib.hid (off_any g b _ w5 hS5.1.dsk); rw [HO.out] at HOF; clear hS5) | (go_at_call 22; refine HOF.out.mono ?_; rintro e w6 ⟨rfl, rfl⟩))
            go_roundw
            case rel => exact ⟨k + 1, by omega, by go_num, m5, HS6.out⟩
            case measure => simp [intOf]; omega
        · obtain rfl : k = N + 3 := by omega
          have hRD := read_sn hS s
          rw [read_off] at hRD
          have HRD := Lib.hid hRD
          have HS7 := Lib.hid hS
          clear hS hRD
          have hlit := str_list [1]
          simp only [List.map_cons, List.map_nil] at hlit
          have HX2 := Lib.hid HX.out
          go_wp2_with (first | (go_at_call 15; refine HCR.out.mono ?_; rintro e w7 ⟨rfl, m7, hS8⟩; rw [crash_A] at hS8; have HOF := Lib.hid (fun w' hB => off_any g b _ w' (hS8.below (w' := w') hB).1.dsk); have HB8 := Lib.hid hS8.2.1; have HRD2 := Lib.hid (read_sn hS8 s); rw [read_on _ HX2.out] at HRD2; clear hS8) | (go_at_call 22; refine (HOF.out _ HB9.out).mono ?_; rintro e w9 ⟨rfl, rfl⟩) | (go_at_call 18; first | (refine HRD2.out.mono ?_; rintro e w8 ⟨A8, n8, c8, rfl, hsl8, _, hB8⟩; have hcv := conv_str hsl8.1 c8; have HB9 := Lib.hid hB8; clear hsl8 hB8) | (refine HRD.out.mono ?_; rintro e w6 ⟨A6, n6, c6, rfl, _, _, hB6⟩; have HCR := Lib.hid (crash_sn (HS7.out.below hB6) none 0 0 [] (by simp [stA]) ⟨rfl, by unfold maxLen; omega, fun h => by omega⟩ (fun a h => by cases h)); clear hB6)))
          go_ret
          exact ⟨rfl, HB8.out.trans (HB9.out.mono HB8.out.size)⟩
    · have HE : n < 0 ∨ 100 < n := by omega
      have HX := Lib.hid hx
      go_enter Try.func8, Try.ntmps8
      go_wp2_with fail
      refine HN.out.mono ?_
      rintro e w1 ⟨b, g, rfl, hS⟩
      have hS2 := hS.below (w' := w1.alloc (.cells #[.int .u8 1] 5)) ((Below.refl _ _).alloc (Nat.le_refl _) _)
      have hA := app_sn hS2 s (some ⟨w1.heap.size, 0, none⟩) 1 1 [1] (by simp [st0]) (rd_one w1 1 (by omega) (by omega)) (fun h => by cases h) (by omega)
      rw [first_F _ hx] at hA
      have HA := Lib.hid hA
      clear hS hS2 hA
      rcases HE with h | h
      · have d1 : decide (n < 0) = true := by simp; omega
        go_wp2_with (first | (go_at_call 16; refine HA.out.mono ?_; rintro e w2 ⟨rfl, m2, hS3⟩; have HSY := Lib.hid (sync_sn hS3 s (by simp)); rw [second_A _ HX.out] at HSY; clear hS3) | (go_at_call 17; refine HSY.out.mono ?_; rintro e w3 ⟨rfl, m3, hS4⟩; have HB := Lib.hid hS4.2.1; clear hS4))
        go_ret
        exact ⟨rfl, HB.out⟩
      · have d1 : decide (n < 0) = false := by simp; omega
        have d2 : decide (100 < n) = true := by simp; omega
        go_wp2_with (first | (go_at_call 16; refine HA.out.mono ?_; rintro e w2 ⟨rfl, m2, hS3⟩; have HSY := Lib.hid (sync_sn hS3 s (by simp)); rw [second_A _ HX.out] at HSY; clear hS3) | (go_at_call 17; refine HSY.out.mono ?_; rintro e w3 ⟨rfl, m3, hS4⟩; have HB := Lib.hid hS4.2.1; clear hS4))
        go_ret
        exact ⟨rfl, HB.out⟩
end Go.Proofs.Ythdpdhjhpbkhaaa.Dk
