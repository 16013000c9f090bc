/-
  DiskFails: the change behind so many others fails, and no other one. Conditions: none.
-/
import Derived.Test.YthdpdhjhpbkhaaaDiskSn
namespace Go.Proofs.Ythdpdhjhpbkhaaa.Dk
open Go.RowKit Go.Proofs.Ythdpdhjhpbkhaaa.Fld

/-- how many bytes are behind the first -/
def cnt (n i : Nat) : Nat := if i ≤ n then i else i - 1
def stF (x : Nm) (n i : Nat) : St := ⟨10000, [(x, 1 :: List.replicate (cnt n i) 2, 0)], false, if i ≤ n then some (n - i) else none, none⟩
def erF (n i : Nat) : Int := if i = n then 4 else 0
theorem fget_one (x : Nm) (zs : List Int) (s : Nat) : fget x [(x, zs, s)] = some (x, zs, s) := by simp [fget, get]
theorem fput_one (x : Nm) (zs zs' : List Int) (s s' : Nat) : fput (x, zs', s') [(x, zs, s)] = [(x, zs', s')] := by simp [fput, put, del, ins]
theorem total_one (x : Nm) (zs : List Int) (s : Nat) : total [(x, zs, s)] = zs.length := by simp [total]
theorem rep_snoc (k : Nat) : (1 :: List.replicate k (2 : Int)) ++ [2] = 1 :: List.replicate (k + 1) 2 := by
  rw [List.cons_append, ← List.replicate_succ']
theorem step_F (x : Nm) (n i : Nat) (hx : okN x = true) (hn : n ≤ 100) (hi : i < n + 3) : stAppend x [2] (stF x n i) = (erF n i, stF x n (i + 1)) := by
  unfold stAppend doing
  rw [hx]
  simp only [if_true]
  have hroom : ¬ (10000 < total [(x, (1 : Int) :: List.replicate (cnt n i) 2, 0)] + ([2] : List Int).length) := by
    rw [total_one]
    simp
    unfold cnt
    split <;> omega
  rcases Nat.lt_trichotomy i n with h | h | h
  · have e1 : chg (stF x n i) = (0, { stF x n i with fail := some (n - i - 1) }) := by
      have h1 : (if i ≤ n then some (n - i) else none) = some (n - i) := if_pos (by omega)
      have h2 : ¬ (n - i = 0) := by omega
      unfold chg stF
      simp [h1, h2]
    rw [e1]
    simp only [if_true]
    unfold app1 stF
    simp only
    rw [if_neg hroom, fget_one]
    simp only
    rw [fput_one, rep_snoc]
    unfold erF
    rw [if_neg (by omega), if_pos (by omega)]
    have : cnt n (i + 1) = cnt n i + 1 := by unfold cnt; rw [if_pos (by omega), if_pos (by omega)]
    rw [this, show n - i - 1 = n - (i + 1) by omega]
  · subst h
    have e1 : chg (stF x i i) = (4, { stF x i i with fail := none }) := by
      unfold chg stF
      simp
    rw [e1]
    simp only
    rw [if_neg (by omega)]
    unfold erF stF
    rw [if_pos rfl]
    have : cnt i (i + 1) = cnt i i := by unfold cnt; rw [if_neg (by omega), if_pos (by omega)]; omega
    rw [this]
    simp
  · have e1 : chg (stF x n i) = (0, stF x n i) := by
      unfold chg stF
      simp only [Bool.false_eq_true, if_false]
      rw [if_neg (show ¬ i ≤ n by omega)]
      simp
    rw [e1]
    simp only [if_true]
    unfold app1 stF
    simp only
    rw [if_neg hroom, fget_one]
    simp only
    rw [fput_one, rep_snoc]
    unfold erF
    rw [if_neg (by omega), if_neg (by omega), if_neg (by omega)]
    have : cnt n (i + 1) = cnt n i + 1 := by unfold cnt; rw [if_neg (by omega), if_neg (by omega)]; omega
    rw [this]
theorem first_F (x : Nm) (hx : okN x = true) : stAppend x [1] (st0 10000) = (0, ⟨10000, [(x, [1], 0)], false, none, none⟩) := by
  unfold stAppend doing
  rw [hx]
  simp [chg, st0, app1, total, fget, get, fput, put, del, ins]
theorem first_bad (x : Nm) (b : List Int) (t : St) (hx : okN x = false) : stAppend x b t = (1, t) := by
  unfold stAppend doing
  rw [hx]
  rfl
theorem total_F (x : Nm) (n i : Nat) : total (stF x n i).fs = cnt n i + 1 := by
  unfold stF
  rw [total_one]
  simp
def FR (w0 : World) (g b : Nat) (x : Nm) (n : Nat) (i : Value) (wr : World) : Prop := ∃ k : Nat, k ≤ n + 3 ∧ i = .int .i64 (k : Int) ∧ ∃ m, Sn w0 wr g b m (stF x n k)
set_option maxRecDepth 100000 in
set_option maxHeartbeats 3200000 in
theorem fails_walk (n : Int) (s : ByteArray) (w : World) : Calls Try.prog 7 #[.int .i64 n, .string s] w fun e w' => e = .returned (.bool true) ∧ Below w.heap.size w w' := by
  have HN := Lib.hid (new_sn 10000 w (by omega) (by omega))
  cases hx : okN s.data.toList with
  | false =>
    go_enter Try.func7, Try.ntmps7
    go_wp2_with fail
    refine HN.out.mono ?_
    rintro e w1 ⟨b, g, rfl, hS⟩
    have hS2 := hS.below (w' := w1.alloc (.cells #[.int .u8 1] 5)) ((Below.refl _ _).alloc (Nat.le_refl _) _)
    have hA := app_sn hS2 s (some ⟨w1.heap.size, 0, none⟩) 1 1 [1] (by simp [st0]) (rd_one w1 1 (by omega) (by omega)) (fun h => by cases h) (by omega)
    rw [first_bad _ _ _ hx] at hA
    have HA := Lib.hid hA
    clear hS hS2 hA
    go_wp2_with (go_at_call 16; refine HA.out.mono ?_; rintro e w2 ⟨rfl, m2, hS3⟩; have HB := Lib.hid hS3.2.1; clear hS3)
    go_ret
    exact ⟨rfl, HB.out⟩
  | true =>
    by_cases hn : 0 ≤ n ∧ n ≤ 100
    · obtain ⟨N, rfl⟩ : ∃ N : Nat, n = (N : Int) := ⟨n.toNat, by omega⟩
      have hN : N ≤ 100 := by omega
      have HX := Lib.hid hx
      have d1 : decide ((N : Int) < 0) = false := by simp
      have d2 : decide ((100 : Int) < (N : Int)) = false := by simp; omega
      go_enter Try.func7, Try.ntmps7
      go_wp2_with fail
      refine HN.out.mono ?_
      rintro e w1 ⟨b, g, rfl, hS⟩
      have hS2 := hS.below (w' := w1.alloc (.cells #[.int .u8 1] 5)) ((Below.refl _ _).alloc (Nat.le_refl _) _)
      have hA := app_sn hS2 s (some ⟨w1.heap.size, 0, none⟩) 1 1 [1] (by simp [st0]) (rd_one w1 1 (by omega) (by omega)) (fun h => by cases h) (by omega)
      rw [first_F _ hx] at hA
      have HA := Lib.hid hA
      clear hS hS2 hA
      go_wp2_with (first | (go_at_call 16; refine HA.out.mono ?_; rintro e w2 ⟨rfl, m2, hS3⟩; have HF := Lib.hid (fail_sn hS3 (N : Int) (by omega)); clear hS3) | (go_at_call 20; refine HF.out.mono ?_; rintro e w3 ⟨rfl, m3, hS4⟩; have HS4 := Lib.hid hS4; clear hS4))
      go_loopw [8] (fun i wr => FR w g b s.data.toList N i wr) (fun i _ => N + 3 - (intOf i).toNat)
      case atStart =>
        refine ⟨0, Nat.zero_le _, rfl, m3, ?_⟩
        have := HS4.out
        unfold stFail at this
        rw [if_neg (by omega)] at this
        simpa [stF, cnt] using this
      case round =>
        obtain ⟨k, hk, rfl, m4, hS⟩ := hrel
        by_cases hlt : k < N + 3
        · have HSZ := Lib.hid (size_any g b _ wr hS.1.dsk)
          have hS2 := hS.below (w' := wr.alloc (.cells #[.int .u8 2] 5)) ((Below.refl _ _).alloc (Nat.le_refl _) _)
          have hA := app_sn hS2 s (some ⟨wr.heap.size, 0, none⟩) 1 1 [2] (by simp [stF]) (rd_one wr 2 (by omega) (by omega)) (fun h => by cases h) (by omega)
          rw [step_F _ N k HX.out hN hlt] at hA
          have HA2 := Lib.hid hA
          clear hS hS2 hA
          rw [total_F] at HSZ
          have i1 : (k : Int) < (N : Int) + 3 := by omega
          rcases Nat.lt_trichotomy k N with h | h | h
          · have hc : cnt N (k + 1) = cnt N k + 1 := by unfold cnt; rw [if_pos (by omega), if_pos (by omega)]
            have he : erF N k = 0 := by unfold erF; rw [if_neg (by omega)]
            have hcb : cnt N k ≤ 110 := by unfold cnt; split <;> omega
            have j1 : ((k : Int) == (N : Int)) = false := by simp; omega
            have j2 : ((k : Int) != (N : Int)) = true := by simp; omega
            have HC := Lib.hid hc
            rw [he] at HA2
            generalize cnt N k = c at *
            have hw : wrap64 ((c : Int) + 1 + 1) = (c : Int) + 1 + 1 := wrap64_in _ (by omega) (by omega)
            have hw2 : IntKind.i64.wrap ((c : Int) + 1 + 1) = (c : Int) + 1 + 1 := IntWalk.i64_in _ (by omega)
            clear he hc
            go_wp2_with (first | (go_at_call 16; refine HA2.out.mono ?_; rintro e w5 ⟨rfl, m5, hS5⟩; have HS5 := Lib.hid hS5; have HSZ2 := Lib.hid (size_any g b _ w5 hS5.1.dsk); rw [total_F, HC.out] at HSZ2; clear hS5) | (go_at_call 19; first | (refine HSZ.out.mono ?_; rintro e w6 ⟨rfl, rfl⟩) | (refine HSZ2.out.mono ?_; rintro e w6 ⟨rfl, rfl⟩)))
            go_roundw
            case rel => exact ⟨k + 1, by omega, by go_num, m5, HS5.out⟩
            case measure => simp [intOf]; omega
          · subst h
            have hc : cnt k (k + 1) = cnt k k := by unfold cnt; rw [if_neg (by omega), if_pos (by omega)]; omega
            have he : erF k k = 4 := by unfold erF; rw [if_pos rfl]
            have hcb : cnt k k ≤ 110 := by unfold cnt; split <;> omega
            have j1 : ((k : Int) == (k : Int)) = true := by simp
            have j2 : ((k : Int) != (k : Int)) = false := by simp
            have HC := Lib.hid hc
            rw [he] at HA2
            generalize cnt k k = c at *
            have hw : wrap64 ((c : Int) + 1 + 1) = (c : Int) + 1 + 1 := wrap64_in _ (by omega) (by omega)
            have hw2 : IntKind.i64.wrap ((c : Int) + 1 + 1) = (c : Int) + 1 + 1 := IntWalk.i64_in _ (by omega)
            clear he hc
            go_wp2_with (first | (go_at_call 16; refine HA2.out.mono ?_; rintro e w5 ⟨rfl, m5, hS5⟩; have HS5 := Lib.hid hS5; have HSZ2 := Lib.hid (size_any g b _ w5 hS5.1.dsk); rw [total_F, HC.out] at HSZ2; clear hS5) | (go_at_call 19; first | (refine HSZ.out.mono ?_; rintro e w6 ⟨rfl, rfl⟩) | (refine HSZ2.out.mono ?_; rintro e w6 ⟨rfl, rfl⟩)))
            go_roundw
            case rel => exact ⟨k + 1, by omega, by go_num, m5, HS5.out⟩
            case measure => simp [intOf]
          · have hc : cnt N (k + 1) = cnt N k + 1 := by unfold cnt; rw [if_neg (by omega), if_neg (by omega)]; omega
            have he : erF N k = 0 := by unfold erF; rw [if_neg (by omega)]
            have hcb : cnt N k ≤ 110 := by unfold cnt; split <;> omega
            have j1 : ((k : Int) == (N : Int)) = false := by simp; omega
            have j2 : ((k : Int) != (N : Int)) = true := by simp; omega
            have HC := Lib.hid hc
            rw [he] at HA2
            generalize cnt N k = c at *
            have hw : wrap64 ((c : Int) + 1 + 1) = (c : Int) + 1 + 1 := wrap64_in _ (by omega) (by omega)
            have hw2 : IntKind.i64.wrap ((c : Int) + 1 + 1) = (c : Int) + 1 + 1 := IntWalk.i64_in _ (by omega)
            clear he hc
            go_wp2_with (first | (go_at_call 16; refine HA2.out.mono ?_; rintro e w5 ⟨rfl, m5, hS5⟩; have HS5 := Lib.hid hS5; have HSZ2 := Lib.hid (size_any g b _ w5 hS5.1.dsk); rw [total_F, HC.out] at HSZ2; clear hS5) | (go_at_call 19; first | (refine HSZ.out.mono ?_; rintro e w6 ⟨rfl, rfl⟩) | (refine HSZ2.out.mono ?_; rintro e w6 ⟨rfl, rfl⟩)))
            go_roundw
            case rel => exact ⟨k + 1, by omega, by go_num, m5, HS5.out⟩
            case measure => simp [intOf]; omega
        · obtain rfl : k = N + 3 := by omega
          have HB := Lib.hid hS.2.1
          clear hS
          go_wp2
          go_ret
          exact ⟨rfl, HB.out⟩
    · have HE : n < 0 ∨ 100 < n := by omega
      go_enter Try.func7, Try.ntmps7
      go_wp2_with fail
      refine HN.out.mono ?_
      rintro e w1 ⟨b, g, rfl, hS⟩
      have hS2 := hS.below (w' := w1.alloc (.cells #[.int .u8 1] 5)) ((Below.refl _ _).alloc (Nat.le_refl _) _)
      have hA := app_sn hS2 s (some ⟨w1.heap.size, 0, none⟩) 1 1 [1] (by simp [st0]) (rd_one w1 1 (by omega) (by omega)) (fun h => by cases h) (by omega)
      rw [first_F _ hx] at hA
      have HA := Lib.hid hA
      clear hS hS2 hA
      rcases HE with h | h
      · have d1 : decide (n < 0) = true := by simp; omega
        go_wp2_with (go_at_call 16; refine HA.out.mono ?_; rintro e w2 ⟨rfl, m2, hS3⟩; have HB := Lib.hid hS3.2.1; clear hS3)
        go_ret
        exact ⟨rfl, HB.out⟩
      · have d1 : decide (n < 0) = false := by simp; omega
        have d2 : decide (100 < n) = true := by simp; omega
        go_wp2_with (go_at_call 16; refine HA.out.mono ?_; rintro e w2 ⟨rfl, m2, hS3⟩; have HB := Lib.hid hS3.2.1; clear hS3)
        go_ret
        exact ⟨rfl, HB.out⟩
end Go.Proofs.Ythdpdhjhpbkhaaa.Dk
