/-
  What the document's reader's Int answers, and what becomes of the reader. Conditions: the reader lies in memory as it was made.
-/
import Derived.Test.YtiegihopjhbliaaFieldDoc
namespace Go.Proofs.Ytiegihopjhbliaa.Fld
open Go.RowKit

set_option maxHeartbeats 800000 in
theorem dint_ok (h : Nat) (rest : List Int) (w : World) (t : DocR w h rest false) (x : Int) (r : List Int) (hc : cutInt rest = some (x, r)) (low high : Int) (hm1 : low ≤ x) (hm2 : x ≤ high) :
    Calls Try.prog 23 #[.pointer (some ⟨h, 0, none⟩), .int .i64 low, .int .i64 high] w (DGot h w (.int .i64 x) r false) := by
  obtain ⟨A, n, cap, p, zs, t, rfl⟩ := t
  obtain ⟨v, k, hk0, hkl, rfl, hn⟩ := cutInt_next _ (bytes_drop t.2.1.2.2.1 p) x r hc
  have HT := Lib.hid t
  have HKL := Lib.hid hkl
  have hpk : p + k ≤ 140737488351232 := by
    have := t.2.1.1
    have := t.2.2.2.2
    have := t.2.2.1
    rw [List.length_drop] at hkl
    omega
  have d1 : ((k : Int) == 0) = false := by simp; omega
  rcases hn with ⟨hn, hv, rfl⟩ | ⟨hn, hv0, hv, rfl⟩
  · have HN := Lib.hid (next_some h A n cap p zs w t v false k hn)
    clear t hc hn hkl
    have hvi : (v : Int) ≤ 9223372036854775807 := by omega
    have d2 : decide ((9223372036854775807 : Int) < (v : Int)) = false := by simp; omega
    have d3 : decide ((v : Int) < low) = false := by simp; omega
    have d4 : decide (high < (v : Int)) = false := by simp; omega
    go_enter Try.func23, Try.ntmps23
    go_wp2_with fail
    refine HN.out.mono ?_
    rintro e w1 ⟨rfl, hst⟩
    have ht := HT.out.1.still hst
    have HST := Lib.hid hst
    obtain ⟨_, c1, c2, f1, f2⟩ := ht.cells
    clear ht hst
    go_wp2
    go_ret
    exact HT.out.moved HST.out _ k (by omega) HKL.out _
  · have HN := Lib.hid (next_some h A n cap p zs w t v true k hn)
    clear t hc hn hkl
    have hvi : (v : Int) ≤ 9223372036854775808 := by omega
    have hv1 : (1 : Int) ≤ (v : Int) := by omega
    have d2 : decide ((9223372036854775808 : Int) < (v : Int)) = false := by simp; omega
    have d3 : decide (-((v : Int) - 1) - 1 < low) = false := by simp; omega
    have d4 : decide (high < -((v : Int) - 1) - 1) = false := by simp; omega
    have HEQ := Lib.hid (show -((v : Int) - 1) - 1 = -(v : Int) by omega)
    go_enter Try.func23, Try.ntmps23
    go_wp2_with fail
    refine HN.out.mono ?_
    rintro e w1 ⟨rfl, hst⟩
    have ht := HT.out.1.still hst
    have HST := Lib.hid hst
    obtain ⟨_, c1, c2, f1, f2⟩ := ht.cells
    clear ht hst
    go_wp2
    go_ret
    exact ⟨congrArg (fun z => Ending.returned (.int .i64 z)) HEQ.out, (HT.out.moved HST.out ((p : Int) + (k : Int)) k (by omega) HKL.out (.int .i64 0)).2⟩

set_option maxHeartbeats 1600000 in
theorem dint_bad (h : Nat) (rest : List Int) (bad : Bool) (w : World) (t : DocR w h rest bad) (low high : Int) (hc : bad = true ∨ cutInt rest = none ∨ ∃ v r, cutInt rest = some (v, r) ∧ (v < low ∨ high < v)) :
    Calls Try.prog 23 #[.pointer (some ⟨h, 0, none⟩), .int .i64 low, .int .i64 high] w (DGot h w (.int .i64 0) rest true) := by
  obtain ⟨A, n, cap, p, zs, t, rfl⟩ := t
  have hby := bytes_drop t.2.1.2.2.1 p
  have HT := Lib.hid t
  have cases3 : (bad = true ∨ nextS (zs.drop p) = none) ∨ (bad = false ∧ ∃ v k, nextS (zs.drop p) = some (v, false, k) ∧ 0 < k ∧ 9223372036854775807 < v) ∨ (bad = false ∧ ∃ v k, nextS (zs.drop p) = some (v, true, k) ∧ 0 < k ∧ 9223372036854775808 < v) ∨
      (bad = false ∧ ∃ v k, nextS (zs.drop p) = some (v, false, k) ∧ 0 < k ∧ v ≤ 9223372036854775807 ∧ ((v : Int) < low ∨ high < (v : Int))) ∨ (bad = false ∧ ∃ v k, nextS (zs.drop p) = some (v, true, k) ∧ 0 < k ∧ 0 < v ∧ v ≤ 9223372036854775808 ∧ (-(v : Int) < low ∨ high < -(v : Int))) := by
    cases bad with
    | true => exact .inl (.inl rfl)
    | false =>
      rcases hc with h | h | ⟨x, r, h, hx⟩
      · cases h
      · rcases cutInt_none _ hby h with h1 | ⟨v, k, h1, h2⟩ | ⟨v, k, h1, h2⟩
        · exact .inl (.inr h1)
        · exact .inr (.inl ⟨rfl, v, k + 1, h1, by omega, h2⟩)
        · exact .inr (.inr (.inl ⟨rfl, v, k + 1, h1, by omega, h2⟩))
      · obtain ⟨v, k, hk0, _, _, h1⟩ := cutInt_next _ hby x r h
        rcases h1 with ⟨h1, h2, rfl⟩ | ⟨h1, h2, h3, rfl⟩
        · exact .inr (.inr (.inr (.inl ⟨rfl, v, k, h1, hk0, h2, hx⟩)))
        · exact .inr (.inr (.inr (.inr ⟨rfl, v, k, h1, hk0, h2, h3, hx⟩)))
  clear hc hby
  rcases cases3 with hn | ⟨rfl, v, k, hn, hk0, hv⟩ | ⟨rfl, v, k, hn, hk0, hv⟩ | ⟨rfl, v, k, hn, hk0, hv, hx⟩ | ⟨rfl, v, k, hn, hk0, hv0, hv, hx⟩
  · have HN := Lib.hid (next_none h A n cap p zs bad w t hn)
    clear t hn
    go_enter Try.func23, Try.ntmps23
    go_wp2_with fail
    refine HN.out.mono ?_
    rintro e w1 ⟨rfl, hst⟩
    have ht := HT.out.1.still hst
    have HST := Lib.hid hst
    obtain ⟨_, c1, c2, f1, f2⟩ := ht.cells
    clear ht hst
    go_wp2
    go_ret
    exact HT.out.amiss HST.out _
  · have HN := Lib.hid (next_some h A n cap p zs w t v false k hn)
    clear t hn
    have d1 : ((k : Int) == 0) = false := by simp; omega
    have d2 : (9223372036854775807 : Int) < (v : Int) := by omega
    go_enter Try.func23, Try.ntmps23
    go_wp2_with fail
    refine HN.out.mono ?_
    rintro e w1 ⟨rfl, hst⟩
    have ht := HT.out.1.still hst
    have HST := Lib.hid hst
    obtain ⟨_, c1, c2, f1, f2⟩ := ht.cells
    clear ht hst
    go_wp2
    go_ret
    exact HT.out.amiss HST.out _
  · have HN := Lib.hid (next_some h A n cap p zs w t v true k hn)
    clear t hn
    have d1 : ((k : Int) == 0) = false := by simp; omega
    have d2 : (9223372036854775808 : Int) < (v : Int) := by omega
    go_enter Try.func23, Try.ntmps23
    go_wp2_with fail
    refine HN.out.mono ?_
    rintro e w1 ⟨rfl, hst⟩
    have ht := HT.out.1.still hst
    have HST := Lib.hid hst
    obtain ⟨_, c1, c2, f1, f2⟩ := ht.cells
    clear ht hst
    go_wp2
    go_ret
    exact HT.out.amiss HST.out _
  · by_cases hlo : (v : Int) < low
    · have HN := Lib.hid (next_some h A n cap p zs w t v false k hn)
      clear t hn
      have d1 : ((k : Int) == 0) = false := by simp; omega
      have hvi : (v : Int) ≤ 9223372036854775807 := by omega
      have d2 : decide ((9223372036854775807 : Int) < (v : Int)) = false := by simp; omega
      go_enter Try.func23, Try.ntmps23
      go_wp2_with fail
      refine HN.out.mono ?_
      rintro e w1 ⟨rfl, hst⟩
      have ht := HT.out.1.still hst
      have HST := Lib.hid hst
      obtain ⟨_, c1, c2, f1, f2⟩ := ht.cells
      clear ht hst
      go_wp2
      go_ret
      exact HT.out.amiss HST.out _
    · have HN := Lib.hid (next_some h A n cap p zs w t v false k hn)
      clear t hn
      have d1 : ((k : Int) == 0) = false := by simp; omega
      have hvi : (v : Int) ≤ 9223372036854775807 := by omega
      have d2 : decide ((9223372036854775807 : Int) < (v : Int)) = false := by simp; omega
      have d3 : decide ((v : Int) < low) = false := by simp; omega
      have d4 : high < (v : Int) := by omega
      go_enter Try.func23, Try.ntmps23
      go_wp2_with fail
      refine HN.out.mono ?_
      rintro e w1 ⟨rfl, hst⟩
      have ht := HT.out.1.still hst
      have HST := Lib.hid hst
      obtain ⟨_, c1, c2, f1, f2⟩ := ht.cells
      clear ht hst
      go_wp2
      go_ret
      exact HT.out.amiss HST.out _
  · by_cases hlo : -(v : Int) < low
    · have HN := Lib.hid (next_some h A n cap p zs w t v true k hn)
      clear t hn
      have d1 : ((k : Int) == 0) = false := by simp; omega
      have hvi : (v : Int) ≤ 9223372036854775808 := by omega
      have hv1 : (1 : Int) ≤ (v : Int) := by omega
      have d2 : decide ((9223372036854775808 : Int) < (v : Int)) = false := by simp; omega
      have d3 : -((v : Int) - 1) - 1 < low := by omega
      go_enter Try.func23, Try.ntmps23
      go_wp2_with fail
      refine HN.out.mono ?_
      rintro e w1 ⟨rfl, hst⟩
      have ht := HT.out.1.still hst
      have HST := Lib.hid hst
      obtain ⟨_, c1, c2, f1, f2⟩ := ht.cells
      clear ht hst
      go_wp2
      go_ret
      exact HT.out.amiss HST.out _
    · have HN := Lib.hid (next_some h A n cap p zs w t v true k hn)
      clear t hn
      have d1 : ((k : Int) == 0) = false := by simp; omega
      have hvi : (v : Int) ≤ 9223372036854775808 := by omega
      have hv1 : (1 : Int) ≤ (v : Int) := by omega
      have d2 : decide ((9223372036854775808 : Int) < (v : Int)) = false := by simp; omega
      have d3 : decide (-((v : Int) - 1) - 1 < low) = false := by simp; omega
      have d4 : high < -((v : Int) - 1) - 1 := by omega
      go_enter Try.func23, Try.ntmps23
      go_wp2_with fail
      refine HN.out.mono ?_
      rintro e w1 ⟨rfl, hst⟩
      have ht := HT.out.1.still hst
      have HST := Lib.hid hst
      obtain ⟨_, c1, c2, f1, f2⟩ := ht.cells
      clear ht hst
      go_wp2
      go_ret
      exact HT.out.amiss HST.out _
end Go.Proofs.Ytiegihopjhbliaa.Fld
