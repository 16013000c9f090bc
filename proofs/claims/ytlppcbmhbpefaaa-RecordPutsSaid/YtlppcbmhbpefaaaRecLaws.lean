/-
  That the laws RecordPuts and RecordSizes answer true and leave all memory that was there as it was. Conditions: the slice's cells can be read; it is within the reach.
-/
import Derived.Test.YtlppcbmhbpefaaaRecBase
import Derived.Deep.QuietTactic
import Derived.BigQuiet
namespace Go.Proofs.Ytlppcbmhbpefaaa.Rc
open Go.RowKit
open Fld (Bytes val Rd Sl Own conv_str str)

set_option maxHeartbeats 800000 in
theorem puts_walk (A : Option Addr) (n cap : Nat) (t : List Int) (w : World) (hr : Rd w A n t) (hA : A = none → cap = 0) :
    Calls Try.prog 3 #[.slice A n cap] w fun e w' => e = .returned (.bool true) ∧ Below w.heap.size w w' := by
  have hm := hr.2.1
  have hmm := hm
  unfold maxLen at hm
  have HR := Lib.hid hr
  have HA := Lib.hid hA
  have HM := Lib.hid hmm
  clear hr hA hmm
  by_cases hb : 1000000 < n
  · have hbi : (1000000 : Int) < (n : Int) := by omega
    go_enter Try.func3, Try.ntmps3
    go_wp2_with fail
    refine (awake_any _).mono ?_
    rintro e w1 ⟨rfl, hb1⟩
    have HB := Lib.hid hb1
    clear hb1
    go_wp2
    go_ret
    exact ⟨rfl, HB.out⟩
  · have hbi : (n : Int) ≤ 1000000 := by omega
    by_cases hs : 65536 < n
    · go_enter Try.func3, Try.ntmps3
      go_wp2_with fail
      refine (awake_any _).mono ?_
      rintro e w1 ⟨rfl, hb1⟩
      have HB := Lib.hid hb1
      clear hb1
      go_wp2_with fail
      refine (put_big A n cap _ hs HM.out).mono ?_
      rintro e w2 ⟨rfl, rfl⟩
      go_wp2_with fail
      refine (refput_big A n cap _ hs HM.out).mono ?_
      rintro e w2 ⟨rfl, rfl⟩
      have q1 := conv_str (Rd.nil w1) 0
      have hss : ((str []).toList == (str []).toList) = true := by simp
      generalize str [] = s at *
      go_wp2
      go_ret
      exact ⟨rfl, HB.out⟩
    · go_enter Try.func3, Try.ntmps3
      go_wp2_with fail
      refine (awake_any _).mono ?_
      rintro e w1 ⟨rfl, hb1⟩
      have HB := Lib.hid hb1
      have HR1 := Lib.hid (HR.out.below hb1)
      clear hb1
      go_wp2_with fail
      refine (put_ok A n cap t _ HR1.out HA.out (by omega)).mono ?_
      rintro e w2 ⟨v2, rfl, hO2⟩
      obtain ⟨A2, c2, hv, hs2, _⟩ := hO2.sl _ rfl
      subst hv
      have HS2 := Lib.hid hs2
      have HB2 := Lib.hid (HB.out.trans (hO2.1.mono HB.out.size))
      have HR2 := Lib.hid (HR1.out.below hO2.1)
      clear hs2 hO2
      go_wp2_with fail
      refine (refput_ok A n cap t _ HR2.out HA.out (by omega)).mono ?_
      rintro e w3 ⟨v3, rfl, hO3⟩
      obtain ⟨A3, c3, hv, hs3, _⟩ := hO3.sl _ rfl
      subst hv
      have HB3 := Lib.hid (HB2.out.trans (hO3.1.mono HB2.out.size))
      have q2 := conv_str (HS2.out.below hO3.1).1 c2
      have q3 := conv_str hs3.1 c3
      have hss : ((str (recd t)).toList == (str (recd t)).toList) = true := by simp
      generalize str (recd t) = s at *
      clear hs3 hO3
      go_wp2
      go_ret
      exact ⟨rfl, HB3.out⟩

set_option maxHeartbeats 800000 in
theorem sizes_walk (A : Option Addr) (n cap : Nat) (t : List Int) (w : World) (hr : Rd w A n t) (hA : A = none → cap = 0) :
    Calls Try.prog 9 #[.slice A n cap] w fun e w' => e = .returned (.bool true) ∧ Below w.heap.size w w' := by
  have hm := hr.2.1
  have hmm := hm
  unfold maxLen at hm
  have HR := Lib.hid hr
  have HA := Lib.hid hA
  have HM := Lib.hid hmm
  have HT := Lib.hid hr.1
  clear hr hA hmm
  by_cases hs : 65536 < n
  · have hbi : (65536 : Int) < (n : Int) := by omega
    go_enter Try.func9, Try.ntmps9
    go_wp2_with fail
    refine (awake_any _).mono ?_
    rintro e w1 ⟨rfl, hb1⟩
    have HB := Lib.hid hb1
    clear hb1
    go_wp2_with fail
    refine (put_big A n cap _ hs HM.out).mono ?_
    rintro e w2 ⟨rfl, rfl⟩
    go_wp2
    go_ret
    exact ⟨rfl, HB.out⟩
  · go_enter Try.func9, Try.ntmps9
    go_wp2_with fail
    refine (awake_any _).mono ?_
    rintro e w1 ⟨rfl, hb1⟩
    have HB := Lib.hid hb1
    have HR1 := Lib.hid (HR.out.below hb1)
    clear hb1
    go_wp2_with fail
    refine (put_ok A n cap t _ HR1.out HA.out (by omega)).mono ?_
    rintro e w2 ⟨v2, rfl, hO2⟩
    obtain ⟨g, c2, hv, _⟩ := hO2.addr (8 + n) (by rw [recd_len, HT.out]) (by omega)
    subst hv
    have HB2 := Lib.hid (HB.out.trans (hO2.1.mono HB.out.size))
    have c0 := (hO2.cell 0 (by omega)).1
    have c1 := (hO2.cell 1 (by omega)).1
    have c2' := (hO2.cell 2 (by omega)).1
    have c3 := (hO2.cell 3 (by omega)).1
    have HF := Lib.hid (val_four n (by omega))
    have HC := Lib.hid (show ∀ k, k < 4 → w2.cell? ⟨g, k, none⟩ = some (.int .u8 ((four n).getD k 0)) by
      intro k hk
      rw [(hO2.cell k (by omega)).1, recd, HT.out, List.getD_eq_getElem?_getD, List.getElem?_append_left (by rw [four_len]; exact hk), ← List.getD_eq_getElem?_getD])
    clear hO2 c0 c1 c2' c3
    go_wp2_with fail
    go_loop [6, 7] (fun r i => ∃ k : Nat, k ≤ 4 ∧ i = .int .i64 k ∧ r = .int .i64 ((val ((four n).take k) : Nat) : Int)) (fun _ i => 4 - (intOf i).toNat)
    case atStart => exact ⟨0, by omega, rfl, rfl⟩
    case round =>
      obtain ⟨k, hk, rfl, rfl⟩ := hrel
      by_cases hlt : k < 4
      · have hck := HC.out k hlt
        have hb := Fld.getD_byte (four_bytes n) k (by rw [four_len]; exact hlt)
        have hv := Fld.val_lt k ((four n).take k) (by rw [List.length_take, four_len]; omega) (Fld.bytes_take (four_bytes n) k)
        have hv2 : val ((four n).take k) < 16777216 := by
          have : (256 : Nat) ^ k ≤ 256 ^ 3 := Nat.pow_le_pow_right (by omega) (by omega)
          have e : (256 : Nat) ^ 3 = 16777216 := by decide
          omega
        have HN := Lib.hid (show val ((four n).take (k + 1)) = val ((four n).take k) * 256 + ((four n).getD k 0).toNat by
          rw [List.take_succ_eq_append_getElem (by rw [four_len]; exact hlt), Fld.val_snoc, List.getD_eq_getElem?_getD, List.getElem?_eq_getElem (by rw [four_len]; exact hlt)]
          rfl)
        clear hv
        generalize val ((four n).take k) = a at *
        generalize (four n).getD k 0 = c at *
        obtain ⟨c', rfl⟩ : ∃ c' : Nat, c = (c' : Int) := ⟨c.toNat, by omega⟩
        have h8 : (k : Int) < 8 + (n : Int) := by omega
        go_wp2
        go_round
        case rel => exact ⟨k + 1, by omega, by go_num, by rw [HN.out, Int.toNat_natCast]; go_num⟩
        case measure => simp [intOf]; omega
      · obtain rfl : k = 4 := by omega
        have HV := Lib.hid (show val ((four n).take 4) = n by rw [List.take_of_length_le (by rw [four_len]; omega)]; exact HF.out)
        rw [HV.out]
        have e1 : ((8 : Int) + (n : Int) == (n : Int) + 8) = true := by simp; omega
        have e2 : ((n : Int) == (n : Int)) = true := by simp
        go_wp2
        go_ret
        exact ⟨rfl, HB2.out⟩
end Go.Proofs.Ytlppcbmhbpefaaa.Rc
