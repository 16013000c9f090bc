/-
  That the law KeepBack answers true and leaves all memory that was there as it was. Conditions: the slice can be read.
-/
import Derived.Test.YtejphnbhcabchaaKeepX
import Derived.Test.YtejphnbhcabchaaKeepAw
namespace Go.Proofs.Ytejphnbhcabchaa.Kp
open Go.RowKit Go.Proofs.Ytejphnbhcabchaa.Fld
set_option linter.unusedVariables false

def BkS (n S k : Nat) (zs : List Int) (t : WhS) : Prop := (k = 0 ∧ t = ⟨false, 0, []⟩) ∨ (0 < k ∧ k * S < n ∧ t = ⟨true, (n : Int), zs.take (k * S)⟩)
def BkR (w0 : World) (G n S : Nat) (zs : List Int) (p i : Value) (wr : World) : Prop := ∃ (k : Nat) (v : Value) (t : WhS), i = .int .i64 (k : Int) ∧ p = .int .i64 ((k * S : Nat) : Int) ∧ Wh w0 wr G v t ∧ BkS n S k zs t ∧ (k = 0 ∨ k * S < n)
/-- a round's Part and Put -/
theorem bk_part {n S k : Nat} {zs : List Int} (hl : zs.length = n) (hn : n ≤ 65536) (hS : 1 ≤ S) (hk : k = 0 ∨ k * S < n) : stPart zs ((k * S : Nat) : Int) (S : Int) = (0, (zs.drop (k * S)).take S) := by
  have hle : k * S ≤ n := by
    rcases hk with rfl | h
    · simp
    · omega
  unfold stPart
  rw [if_neg (by rw [hl]; omega), Int.toNat_natCast, Int.toNat_natCast]
theorem bk_put {n S k : Nat} {zs : List Int} {t : WhS} (hl : zs.length = n) (hn : n ≤ 65536) (hS : 1 ≤ S) (h : BkS n S k zs t) : stPut ((k * S : Nat) : Int) (n : Int) ((zs.drop (k * S)).take S) t = (0, ⟨true, (n : Int), zs.take (k * S + S)⟩) := by
  have hx : ((zs.drop (k * S)).take S).length = min S (n - k * S) := by rw [List.length_take, List.length_drop, hl]
  unfold stPut
  rcases h with ⟨rfl, rfl⟩ | ⟨hk, hlt, rfl⟩
  · rw [Nat.zero_mul] at *
    rw [if_neg (by rw [hx]; omega), if_pos (by omega)]
    simp
  · have hp : 0 < k * S := Nat.mul_pos hk (by omega)
    rw [if_neg (by rw [hx]; omega), if_neg (by omega), if_neg (by simp only [List.length_take, hl]; simp; omega)]
    rw [List.take_add]
theorem bk_few {n S k Q : Nat} (hQ : n / S = Q) (hq : Q ≤ 2000) (hS : 1 ≤ S) (h : k * S < n) : k ≤ 2000 := by
  rcases Nat.lt_or_ge 2000 k with h1 | h1
  · exfalso
    have h2 : 2001 ≤ n / S := (Nat.le_div_iff_mul_le (by omega)).2 (by
      have : 2001 * S ≤ k * S := Nat.mul_le_mul_right _ h1
      omega)
    omega
  · exact h1
theorem wrap_quo (n S Q : Nat) (hn : n ≤ 65536) (hQ : n / S = Q) : wrap64 ((n : Int) / (S : Int)) = (Q : Int) := by
  have h1 : (n : Int) / (S : Int) = ((n / S : Nat) : Int) := by simp
  have h2 : n / S ≤ n := Nat.div_le_self _ _
  rw [h1, hQ]
  unfold wrap64
  omega
theorem isDone_eq (n : Nat) (b : List Int) : isDone ⟨true, (n : Int), b⟩ = decide (b.length = n) := by
  unfold isDone
  simp only [Bool.true_and]
  congr 1
  simp
  omega
set_option maxRecDepth 100000 in
set_option maxHeartbeats 3200000 in
theorem back_walk (A : Option Addr) (n cap : Nat) (zs : List Int) (s : Int) (w : World) (hr : Rd w A n zs) (hA : A = none → cap = 0) (hl : n ≤ cap) (hc : cap ≤ 140737488351232) (hs1 : s ≤ 9223372036854775807) (hs0 : -9223372036854775808 ≤ s) :
    Calls Try.prog 4 #[.slice A n cap, .int .i64 s] w fun e w' => e = .returned (.bool true) ∧ Below w.heap.size w w' := by
  have HR := Lib.hid hr
  have HA := Lib.hid hA
  have HL := Lib.hid hr.1
  have HAW := Lib.hid (awake_any w)
  clear hr hA
  go_enter Try.func4, Try.ntmps4
  go_wp2_with fail
  refine HAW.out.mono ?_
  rintro e w1 ⟨rfl, hb1⟩
  have HB1 := Lib.hid hb1
  clear hb1
  by_cases h1 : 65536 < (n : Int)
  · go_wp2
    go_ret
    exact ⟨rfl, HB1.out⟩
  by_cases h2 : s < 1
  · go_wp2
    go_ret
    exact ⟨rfl, HB1.out⟩
  obtain ⟨S, rfl⟩ : ∃ S : Nat, s = (S : Int) := ⟨s.toNat, by omega⟩
  obtain ⟨Q, hQ⟩ : ∃ Q, n / S = Q := ⟨_, rfl⟩
  have hwq := wrap_quo n S Q (by omega) hQ
  have HQ := Lib.hid hQ
  clear hQ
  by_cases h3 : (2000 : Int) < (Q : Int)
  · go_wp2
    go_ret
    exact ⟨rfl, HB1.out⟩
  have HFEW := Lib.hid (fun k => bk_few (k := k) HQ.out (by omega) (by omega))
  go_wp2_with fail
  have hb2 := alloc_below' w1 (.cells #[.bool false, .int .i64 0, .slice none 0 0] 28)
  have HW0 := Lib.hid (show Wh w1 (w1.alloc (.cells #[.bool false, .int .i64 0, .slice none 0 0] 28)) w1.heap.size (.slice none 0 0) ⟨false, 0, []⟩ from ⟨Blk.new w1 _ _, Own.nil _ _ hb2, Nat.le_refl _⟩)
  clear hb2 hwq h3
  generalize w1.alloc (.cells #[.bool false, .int .i64 0, .slice none 0 0] 28) = w2 at *
  obtain ⟨G, hG⟩ : ∃ G, w1.heap.size = G := ⟨_, rfl⟩
  rw [hG] at HW0 ⊢
  clear hG
  go_loopw [7, 8] (fun p i wr => BkR w1 G n S zs p i wr) (fun _ i _ => 3000 - (intOf i).toNat)
  case atStart => exact ⟨0, _, _, rfl, by simp, HW0.out, .inl ⟨rfl, rfl⟩, .inl rfl⟩
  case round =>
    obtain ⟨k, v, t, rfl, rfl, hW, hst, hkk⟩ := hrel
    have HW := Lib.hid hW
    have HST := Lib.hid hst
    have HKK := Lib.hid hkk
    have hk2 : k ≤ 2000 := by
      rcases hkk with rfl | h
      · omega
      · exact HFEW.out k h
    have hle : k * S ≤ n := by
      rcases hkk with rfl | h
      · simp
      · omega
    have HPT := Lib.hid (bk_part HL.out (by omega) (by omega) hkk)
    have HPU := Lib.hid (bk_put HL.out (by omega) (by omega) hst)
    have HXL := Lib.hid (show ((zs.drop (k * S)).take S).length = min S (n - k * S) by rw [List.length_take, List.length_drop, HL.out])
    have HTL := Lib.hid (show (zs.take (k * S + S)).length = min (k * S + S) n by rw [List.length_take, HL.out])
    have HSUC := Lib.hid (show (k + 1) * S = k * S + S from Nat.succ_mul k S)
    have HNX := Lib.hid (show k * S + S < n → BkS n S (k + 1) zs ⟨true, (n : Int), zs.take (k * S + S)⟩ from fun h => .inr ⟨by omega, by rw [HSUC.out]; exact h, by rw [HSUC.out]⟩)
    have HP := Lib.hid (part_any A n cap zs ((k * S : Nat) : Int) (S : Int) wr (HR.out.below (HB1.out.trans (hW.own.1.mono HB1.out.size))) HA.out hl (by omega) (by omega))
    rw [HPT.out] at HP
    have HFIN := Lib.hid (show ¬ k * S + S < n → zs.take (k * S + S) = zs from fun h => List.take_of_length_le (by rw [HL.out]; omega))
    clear hW hst hkk HPT
    generalize hP : k * S = P at *
    have HP0 := Lib.hid hP
    clear hP
    have j1 : (k : Int) < 3000 := by omega
    go_wp2_with fail
    refine HP.out.mono ?_
    rintro e w3 ⟨v3, rfl, hO3⟩
    obtain ⟨A3, c3, hv3, hs3, _⟩ := hO3.sl _ HXL.out
    subst hv3
    have HB3 := Lib.hid hO3.1
    have HW3 := Lib.hid (HW.out.below hO3.1)
    have HPP := Lib.hid (put_any w1 w3 G v t (P : Int) (n : Int) A3 _ c3 _ HW3.out hs3.1 hs3.2.2.2.1 (by omega))
    rw [HPU.out] at HPP
    clear hO3 hs3 HP HPU
    go_wp2_with fail
    refine HPP.out.mono ?_
    rintro e w4 ⟨rfl, v4, hW4, _, _⟩
    have HW4 := Lib.hid hW4
    have HDN := Lib.hid (done_any w1 w4 G v4 _ hW4 (by simp only; rw [HTL.out]; omega))
    unfold DoneIs at HDN
    rw [isDone_eq, HTL.out] at HDN
    clear hW4 HPP
    by_cases hfin : P + S < n
    · have hmn : min S (n - P) = S := by omega
      rw [hmn] at *
      have hdd : decide (min (P + S) n = n) = false := by simp; omega
      rw [hdd] at HDN
      have j2 : ¬ (n : Int) ≤ (P : Int) + (S : Int) := by omega
      go_wp2_with fail
      refine HDN.out.mono ?_
      rintro e w5 ⟨v5, rfl, hO5⟩
      have HW5 := Lib.hid (HW4.out.below hO5.1)
      clear hO5 hdd hmn
      have j3 : ((S : Int) == 0) = false := by simp; omega
      go_wp2
      go_roundw
      case rel => exact ⟨k + 1, v4, _, by go_num, by rw [HSUC.out]; go_num, HW5.out, HNX.out hfin, .inr (by rw [HSUC.out]; exact hfin)⟩
      case measure => simp [intOf]; omega
    · have hmn : min S (n - P) = n - P := by omega
      rw [hmn] at *
      have hdd : decide (min (P + S) n = n) = true := by simp; omega
      rw [hdd] at HDN
      have HZ := Lib.hid (HFIN.out hfin)
      rw [if_pos rfl] at HDN
      simp only at HDN
      rw [HZ.out] at HDN
      have j2 : (n : Int) ≤ (P : Int) + ((n - P : Nat) : Int) := by omega
      go_wp2_with fail
      refine HDN.out.mono ?_
      rintro e w5 ⟨v5, rfl, hO5⟩
      obtain ⟨A5, c5, hv5, hs5, _⟩ := hO5.sl n HL.out
      subst hv5
      have HB5 := Lib.hid (HB1.out.trans ((HW4.out.own.1.trans (hO5.1.mono HW4.out.own.1.size)).mono HB1.out.size))
      have q1 := conv_str hs5.1 c5
      have q2 := conv_str (HR.out.below HB5.out) cap
      have hss := str_same zs
      clear hO5 hs5 hdd hmn
      generalize str zs = ss at *
      go_wp2
      go_ret
      exact ⟨rfl, HB5.out⟩
end Go.Proofs.Ytejphnbhcabchaa.Kp
