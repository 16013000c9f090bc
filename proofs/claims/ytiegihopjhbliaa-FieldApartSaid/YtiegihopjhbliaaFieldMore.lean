/-
  What the functions Int and Text of package field, and the document's own, make for whatever they are called with: the codes of XFieldMath, in memory of the call's own. Conditions: as each theorem states.
-/
import Derived.Test.YtiegihopjhbliaaFieldMake
namespace Go.Proofs.Ytiegihopjhbliaa.Fld
open Go.RowKit

theorem wrap_neg (x : Int) (h0 : -9223372036854775808 ≤ x) (h : x < 0) : IntKind.u64.wrap (-IntKind.u64.wrap x) = ((-x).toNat : Int) := by
  simp only [IntKind.wrap_u64]
  omega

set_option maxHeartbeats 800000 in
theorem int_any (x : Int) (h0 : -9223372036854775808 ≤ x) (h1 : x ≤ 9223372036854775807) (w : World) : Calls Try.prog 15 #[.int .i64 x] w (Made w (intC x)) := by
  rcases Int.lt_or_le x 0 with h | h
  · have HN := Lib.hid (number_any (-x).toNat (by omega) w)
    have HC := Lib.hid (intC_set x h)
    have hk := digs_len8 (-x).toNat (by omega)
    have hg : (code (-x).toNat).getD 0 0 = ((digs (-x).toNat).length : Int) := rfl
    have HLN := Lib.hid (code_len (-x).toNat)
    have HW := Lib.hid (wrap_neg x h0 h)
    generalize (digs (-x).toNat).length = k at *
    go_enter Try.func15, Try.ntmps15
    go_wp2_with fail
    rw [HW.out]
    refine HN.out.mono ?_
    rintro e w' ⟨v, rfl, hO⟩
    obtain ⟨g, cap, hv, _⟩ := hO.addr (k + 1) HLN.out (by omega)
    subst hv
    have hc := (hO.cell 0 (by omega)).1
    have hf := (hO.cell 0 (by omega)).2.1
    rw [hg] at hc
    have HO := Lib.hid (hO.store 0 ((k : Int) + 16) (by omega) (by omega))
    clear hO hg
    go_wp2
    go_ret
    exact ⟨_, rfl, by rw [HC.out]; exact HO.out⟩
  · obtain ⟨n, rfl⟩ : ∃ n : Nat, x = (n : Int) := ⟨x.toNat, by omega⟩
    have hn : n < 18446744073709551616 := by omega
    have HN := Lib.hid (number_any n hn w)
    have HC := Lib.hid (intC_pos (n : Int) h)
    rw [Int.toNat_natCast] at HC
    clear hn
    go_enter Try.func15, Try.ntmps15
    go_wp2_with fail
    refine HN.out.mono ?_
    rintro e w' ⟨v, rfl, hO⟩
    have HO := Lib.hid hO
    clear hO
    go_wp2
    go_ret
    exact ⟨_, rfl, by rw [HC.out]; exact HO.out⟩
set_option maxHeartbeats 800000 in
theorem refint_any (x : Int) (h0 : -9223372036854775808 ≤ x) (h1 : x ≤ 9223372036854775807) (w : World) : Calls Try.prog 16 #[.int .i64 x] w (Made w (intC x)) := by
  rcases Int.lt_or_le x 0 with h | h
  · have HN := Lib.hid (refnumber_any (-x).toNat (by omega) w)
    have HC := Lib.hid (intC_set x h)
    have hk := digs_len8 (-x).toNat (by omega)
    have hg : (code (-x).toNat).getD 0 0 = ((digs (-x).toNat).length : Int) := rfl
    have HLN := Lib.hid (code_len (-x).toNat)
    have HW := Lib.hid (show -(x + 1) + 1 = ((-x).toNat : Int) by omega)
    generalize (digs (-x).toNat).length = k at *
    go_enter Try.func16, Try.ntmps16
    go_wp2_with fail
    rw [HW.out]
    refine HN.out.mono ?_
    rintro e w' ⟨v, rfl, hO⟩
    obtain ⟨g, cap, hv, _⟩ := hO.addr (k + 1) HLN.out (by omega)
    subst hv
    have hc := (hO.cell 0 (by omega)).1
    have hf := (hO.cell 0 (by omega)).2.1
    rw [hg] at hc
    have HO := Lib.hid (hO.store 0 ((k : Int) + 16) (by omega) (by omega))
    clear hO hg
    go_wp2
    go_ret
    exact ⟨_, rfl, by rw [HC.out]; exact HO.out⟩
  · obtain ⟨n, rfl⟩ : ∃ n : Nat, x = (n : Int) := ⟨x.toNat, by omega⟩
    have hn : n < 18446744073709551616 := by omega
    have HN := Lib.hid (refnumber_any n hn w)
    have HC := Lib.hid (intC_pos (n : Int) h)
    rw [Int.toNat_natCast] at HC
    clear hn
    go_enter Try.func16, Try.ntmps16
    go_wp2_with fail
    refine HN.out.mono ?_
    rintro e w' ⟨v, rfl, hO⟩
    have HO := Lib.hid hO
    clear hO
    go_wp2
    go_ret
    exact ⟨_, rfl, by rw [HC.out]; exact HO.out⟩

set_option maxHeartbeats 800000 in
theorem text_any (A : Option Addr) (n cap : Nat) (zs : List Int) (w : World) (hr : Rd w A n zs) (hA : A = none → cap = 0) (hn : n ≤ 140737488351232) : Calls Try.prog 17 #[.slice A n cap] w (Made w (textC zs)) := by
  have HR := Lib.hid hr
  have HA := Lib.hid hA
  have HL := Lib.hid hr.1
  have HK := Lib.hid (digs_len8 n (by omega))
  clear hr hA
  have HN := Lib.hid (number_any n (by omega) w)
  go_enter Try.func17, Try.ntmps17
  go_wp2_with fail
  refine HN.out.mono ?_
  rintro e w' ⟨v, rfl, hO⟩
  have HO := Lib.hid hO
  have HR1 := Lib.hid (HR.out.below hO.1)
  clear hO
  go_wp2_with (refine wpList_append_rd rfl _ _ rfl w _ (code n) rfl HO.out A n cap zs rfl HA.out HR1.out (by have := HK.out; rw [code_len]; omega) ?_)
  intro v1 w1 hO1 _ _
  have HO2 := Lib.hid hO1
  clear hO1
  go_wp2
  go_ret
  exact ⟨_, rfl, by rw [textC, HL.out]; exact HO2.out⟩
set_option maxHeartbeats 800000 in
theorem reftext_any (A : Option Addr) (n cap : Nat) (zs : List Int) (w : World) (hr : Rd w A n zs) (hA : A = none → cap = 0) (hn : n ≤ 140737488351232) : Calls Try.prog 18 #[.slice A n cap] w (Made w (textC zs)) := by
  have HR := Lib.hid hr
  have HA := Lib.hid hA
  have HL := Lib.hid hr.1
  have HK := Lib.hid (digs_len8 n (by omega))
  clear hr hA
  have HN := Lib.hid (refnumber_any n (by omega) w)
  go_enter Try.func18, Try.ntmps18
  go_wp2_with fail
  refine HN.out.mono ?_
  rintro e w' ⟨v, rfl, hO⟩
  have HO := Lib.hid hO
  have HR1 := Lib.hid (HR.out.below hO.1)
  clear hO
  go_wp2_with (refine wpList_append_rd rfl _ _ rfl w _ (code n) rfl HO.out A n cap zs rfl HA.out HR1.out (by have := HK.out; rw [code_len]; omega) ?_)
  intro v1 w1 hO1 _ _
  have HO2 := Lib.hid hO1
  clear hO1
  go_wp2
  go_ret
  exact ⟨_, rfl, by rw [textC, HL.out]; exact HO2.out⟩
end Go.Proofs.Ytiegihopjhbliaa.Fld
