/-
  That the law FareSums answers true and changes no memory that was there; what the document's own Sum answers. Conditions: as each theorem states.
-/
import Derived.Test.YtidjpemdapimjaaFareSum
namespace Go.Proofs.Ytidjpemdapimjaa.Fr
open Go.RowKit

set_option maxHeartbeats 800000 in
theorem refsum_any (A : Option Addr) (n cap : Nat) (zs : List Nat) (w : World) (hr : RdF w A n zs) : Calls Try.prog 24 #[.slice A n cap] w (Summed w zs) := by
  obtain ⟨hl, hm, hc⟩ := hr
  unfold maxLen at hm
  have HL := Lib.hid hl
  have HC := Lib.hid hc
  clear hl hc
  go_enter Try.func24, Try.ntmps24
  go_wp2
  go_loopw [3, 4] (fun t i wr => SumR w zs n t i wr) (fun _ i _ => n - (intOf i).toNat)
  case atStart => exact ⟨0, 0, 0, rfl, rfl, Nat.zero_le _, ⟨fun r hr => by cases hr; rfl, fun h => by cases h⟩, rfl⟩
  case round =>
    obtain ⟨b, k, m, rfl, rfl, hk, hS, rfl⟩ := hrel
    have HS := Lib.hid hS
    clear hS
    by_cases hlt : k < n
    · obtain ⟨B, off, rfl, hcell⟩ := HC.out (by omega)
      have hc := hcell k hlt
      clear hcell
      obtain ⟨c, d, hadd, hS2⟩ := add_step _ b (zs.getD k 0) HS.out (w.drewN m)
      rw [← fsum_snoc, ← take_snoc zs k (by rw [HL.out]; exact hlt)] at hS2
      have HS2 := Lib.hid hS2
      clear hS2
      generalize zs.getD k 0 = f at *
      go_wp2
      go_roundw
      case rel => exact ⟨c, k + 1, m + d, rfl, by go_num, by omega, HS2.out, by simp⟩
      case measure => simp [intOf]; omega
    · obtain rfl : k = n := by omega
      have hz := HS.out
      rw [← HL.out, List.take_length] at hz
      have HZ := Lib.hid hz
      clear hz
      go_wp2
      go_ret
      exact ⟨b, m, rfl, HZ.out, rfl⟩

theorem RdF.drewN {w : World} {A : Option Addr} {n : Nat} {zs : List Nat} (h : RdF w A n zs) (m : Nat) : RdF (w.drewN m) A n zs := h

theorem RdF.one (W : World) (B : Nat) (hB : W.heap.size = B) : RdF (W.alloc (.cells #[.float .f64 4607182418800017408] 22)) (some ⟨B, 0, none⟩) 1 [4607182418800017408] := by
  subst hB
  refine ⟨rfl, by unfold maxLen; omega, fun _ => ⟨_, 0, rfl, fun i hi => ?_⟩⟩
  obtain rfl : i = 0 := by omega
  simp
theorem sum_one : fsum [4607182418800017408] = some 4607182418800017408 := by decide +kernel
theorem eq_one : (FloatKind.f64.format.order 4607182418800017408 4607182418800017408 == some .eq) = true := by decide +kernel
theorem same_sum {o : Option Nat} {s t : Nat} (h1 : IsSum o s) (h2 : IsSum o t) : (nn s = true ∧ nn t = true) ∨ s = t := by
  cases o with
  | none => exact Or.inl ⟨h1.2 rfl, h2.2 rfl⟩
  | some r => exact Or.inr ((h1.1 r rfl).trans (h2.1 r rfl).symm)
theorem below_all (w : World) (m k : Nat) (o : Obj) : Below w.heap.size w (((w.drewN m).alloc o).drewN k) :=
  below_drewN ((below_drewN (Below.refl _ _) m).alloc (Nat.le_refl _) _) k

set_option maxHeartbeats 800000 in
theorem sums_walk (A : Option Addr) (n cap : Nat) (zs : List Nat) (w : World) (hr : RdF w A n zs) : Calls Try.prog 6 #[.slice A n cap] w (IsTrueB w) := by
  have HR := Lib.hid hr
  clear hr
  by_cases hn : 100000 < n
  · go_enter Try.func6, Try.ntmps6
    go_wp2
    go_ret
    exact ⟨rfl, Below.refl _ _⟩
  · go_enter Try.func6, Try.ntmps6
    go_wp2_with fail
    refine (sum_any A n cap zs _ HR.out).mono ?_
    rintro e w1 ⟨s, m1, rfl, hs, rfl⟩
    have HS := Lib.hid hs
    clear hs
    go_wp2_with fail
    refine (refsum_any A n cap zs _ (HR.out.drewN _)).mono ?_
    rintro e w1 ⟨t, m2, rfl, ht, rfl⟩
    have HT := Lib.hid ht
    clear ht
    go_wp2_with fail
    refine (sum_any _ 1 1 [4607182418800017408] _ (RdF.one _ _ rfl)).mono ?_
    rintro e w1 ⟨u, m3, rfl, hu, rfl⟩
    obtain rfl := hu.1 _ sum_one
    clear hu
    have q0 := eq_one
    have q1 := f_nan s
    have q2 := f_nan t
    have q3 := run_bits s
    have q4 := run_bits t
    rcases same_sum HS.out HT.out with ⟨h1, h2⟩ | rfl
    · rw [h1] at q1
      rw [h2] at q2
      go_wp2
      go_ret
      exact ⟨rfl, below_all _ _ _ _⟩
    · clear q2 q4
      cases hc : nn s with
      | true =>
        rw [hc] at q1
        go_wp2
        go_ret
        exact ⟨rfl, below_all _ _ _ _⟩
      | false =>
        rw [hc] at q1
        go_wp2
        go_ret
        exact ⟨by simp, below_all _ _ _ _⟩
end Go.Proofs.Ytidjpemdapimjaa.Fr
