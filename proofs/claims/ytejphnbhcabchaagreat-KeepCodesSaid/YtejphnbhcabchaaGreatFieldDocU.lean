/-
  What the document's reader's Text answers where nothing can be read, and what becomes of the reader. Conditions: the reader lies in memory as it was made.
-/
import Derived.Test.YtejphnbhcabchaaGreatFieldDocT
namespace Go.Proofs.YtejphnbhcabchaaGreat.Fld
open Go.RowKit

set_option maxRecDepth 100000 in
set_option maxHeartbeats 3200000 in
theorem dtext_bad (h : Nat) (rest : List Int) (bad : Bool) (w : World) (t : DocR w h rest bad) (most : Int) (hm0 : -9223372036854775808 ≤ most) (hm1 : most ≤ 9223372036854775807) (hc : bad = true ∨ cutText rest = none ∨ ∃ tx r, cutText rest = some (tx, r) ∧ most < (tx.length : Int)) :
    Calls Tryz.prog 71 #[.pointer (some ⟨h, 0, none⟩), .int .i64 most] w (DGot h w (.slice none 0 0) rest true) := by
  obtain ⟨A, n, cap, p, zs, t, rfl⟩ := t
  have hby := bytes_drop t.2.1.2.2.1 p
  have hzl := t.2.1.1
  have hpn := t.2.2.1
  have hn47 := t.2.2.2.2
  have HT := Lib.hid t
  have cases5 : (bad = true ∨ nextS (zs.drop p) = none) ∨ (bad = false ∧ ∃ v k, nextS (zs.drop p) = some (v, true, k) ∧ 0 < k) ∨ (bad = false ∧ ∃ v k, nextS (zs.drop p) = some (v, false, k) ∧ 0 < k ∧ k ≤ n - p ∧ (most < (v : Int) ∨ n - p - k < v)) := by
    cases bad with
    | true => exact .inl (.inl rfl)
    | false =>
      cases hcn : cutNum (zs.drop p) with
      | none =>
        rcases cutNum_none _ hby hcn with h1 | ⟨v, k, h1⟩
        · exact .inl (.inr h1)
        · exact .inr (.inl ⟨rfl, v, k + 1, h1, by omega⟩)
      | some q =>
        obtain ⟨v, rr⟩ := q
        obtain ⟨k, hn, hk0, hkl, rfl, _⟩ := cutNum_next _ hby v rr hcn
        rw [List.length_drop, hzl] at hkl
        refine .inr (.inr ⟨rfl, v, k, hn, hk0, hkl, ?_⟩)
        have hlr : ((zs.drop p).drop k).length = n - p - k := by rw [List.length_drop, List.length_drop, hzl]
        rcases hc with h | h | ⟨tx, r, h, hx⟩
        · cases h
        · unfold cutText at h
          rw [hcn] at h
          simp only at h
          by_cases hvr : v ≤ ((zs.drop p).drop k).length
          · rw [if_pos hvr] at h; cases h
          · exact .inr (by omega)
        · unfold cutText at h
          rw [hcn] at h
          simp only at h
          by_cases hvr : v ≤ ((zs.drop p).drop k).length
          · rw [if_pos hvr] at h
            simp only [Option.some.injEq, Prod.mk.injEq] at h
            rw [← h.1, List.length_take] at hx
            exact .inl (by omega)
          · rw [if_neg hvr] at h; cases h
  clear hc hby hzl
  rcases cases5 with hn | ⟨rfl, v, k, hn, hk0⟩ | ⟨rfl, v, k, hn, hk0, hkl, hv⟩
  · have HN := Lib.hid (next_none h A n cap p zs bad w t hn)
    clear t hn
    go_enter Tryz.func71, Tryz.ntmps71
    go_wp2_with fail
    refine HN.out.mono ?_
    rintro e wa ⟨rfl, hst⟩
    have ht := HT.out.1.still hst
    have HST := Lib.hid hst
    obtain ⟨c0, c1, c2, f1, f2⟩ := ht.cells
    clear ht hst
    go_wp2_with fail
    go_quiet (fail)
    go_wp2
    go_ret
    exact HT.out.amiss (Still.drewN HST.out _) _
  · have HN := Lib.hid (next_some h A n cap p zs w t v true k hn)
    clear t hn
    have d1 : ((k : Int) == 0) = false := by simp; omega
    go_enter Tryz.func71, Tryz.ntmps71
    go_wp2_with fail
    refine HN.out.mono ?_
    rintro e wa ⟨rfl, hst⟩
    have ht := HT.out.1.still hst
    have HST := Lib.hid hst
    obtain ⟨c0, c1, c2, f1, f2⟩ := ht.cells
    clear ht hst
    go_wp2_with fail
    go_quiet (fail)
    go_wp2
    go_ret
    exact HT.out.amiss (Still.drewN HST.out _) _
  · have HN := Lib.hid (next_some h A n cap p zs w t v false k hn)
    clear t hn
    have d1 : ((k : Int) == 0) = false := by simp; omega
    have w2 : IntKind.i64.wrap ((n : Int) - (p : Int)) = (n : Int) - (p : Int) := IntWalk.i64_in _ (by omega)
    have w3 : IntKind.i64.wrap ((n : Int) - (p : Int) - (k : Int)) = (n : Int) - (p : Int) - (k : Int) := IntWalk.i64_in _ (by omega)
    have w4 : IntKind.u64.wrap ((n : Int) - (p : Int) - (k : Int)) = (n : Int) - (p : Int) - (k : Int) := by rw [IntKind.wrap_u64]; omega
    have HW2 := Lib.hid w2
    have HW3 := Lib.hid w3
    have HW4 := Lib.hid w4
    clear w2 w3 w4
    by_cases hneg : most < 0
    · have d2 : decide (most < 0) = true := by simp; omega
      go_enter Tryz.func71, Tryz.ntmps71
      go_wp2_with fail
      refine HN.out.mono ?_
      rintro e wa ⟨rfl, hst⟩
      have ht := HT.out.1.still hst
      have HST := Lib.hid hst
      obtain ⟨c0, c1, c2, f1, f2⟩ := ht.cells
      clear ht hst
      go_wp2_with fail
      go_quiet (fail)
      go_wp2
      go_ret
      exact HT.out.amiss (Still.drewN HST.out _) _
    · have w1 : IntKind.u64.wrap most = most := by rw [IntKind.wrap_u64]; omega
      have d2 : decide (most < 0) = false := by simp; omega
      by_cases hbig : most < (v : Int)
      · have d3 : decide (most < (v : Int)) = true := by simp; omega
        go_enter Tryz.func71, Tryz.ntmps71
        go_wp2_with fail
        refine HN.out.mono ?_
        rintro e wa ⟨rfl, hst⟩
        have ht := HT.out.1.still hst
        have HST := Lib.hid hst
        obtain ⟨c0, c1, c2, f1, f2⟩ := ht.cells
        clear ht hst
        go_wp2_with fail
        go_quiet (fail)
        go_wp2
        go_ret
        exact HT.out.amiss (Still.drewN HST.out _) _
      · have d3 : decide (most < (v : Int)) = false := by simp; omega
        have d4 : (n : Int) - (p : Int) - (k : Int) < (v : Int) := by omega
        have d5 : decide ((n : Int) - (p : Int) - (k : Int) < (v : Int)) = true := by simp; omega
        have w2 := HW2.out
        have w3 := HW3.out
        have w4 := HW4.out
        go_enter Tryz.func71, Tryz.ntmps71
        go_wp2_with fail
        refine HN.out.mono ?_
        rintro e wa ⟨rfl, hst⟩
        have ht := HT.out.1.still hst
        have HST := Lib.hid hst
        obtain ⟨c0, c1, c2, f1, f2⟩ := ht.cells
        clear ht hst
        go_wp2_with fail
        go_quiet (fail)
        go_wp2
        go_ret
        exact HT.out.amiss (Still.drewN HST.out _) _
end Go.Proofs.YtejphnbhcabchaaGreat.Fld
