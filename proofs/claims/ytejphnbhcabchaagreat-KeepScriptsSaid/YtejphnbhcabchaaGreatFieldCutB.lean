/-
  What the inner functions cutNumber, cutInt and cutText of package field's reader answer for whatever bytes they are given: what stands first, cut off, or the panic with ErrForm. Conditions: the slice can be read (Sl).
-/
import Derived.Test.YtejphnbhcabchaaGreatFieldCut
import Derived.RegionDies
namespace Go.Proofs.YtejphnbhcabchaaGreat.Fld
open Go.RowKit

set_option maxHeartbeats 800000 in
theorem cutN_bad (A : Option Addr) (n cap : Nat) (zs : List Int) (w : World) (hs : Sl w A n cap zs) (h : cutNum zs = none) :
    Calls Tryz.prog 125 #[.slice A n cap] w (CutBad w) := by
  cases zs with
  | nil =>
    obtain rfl : n = 0 := by have := hs.1.1; simpa using this.symm
    clear hs h
    go_enter Tryz.func125, Tryz.ntmps125
    go_wp2_with (go_at_call 101; refine (demand_bad _).mono ?_; rintro e w' ⟨rfl, rfl⟩)
    exact ⟨rfl, rfl, Still.refl _⟩
  | cons c rr =>
    have hc := hs.1.2.2.1 c (by simp)
    obtain ⟨k, rfl⟩ : ∃ k : Nat, c = (k : Int) := ⟨c.toNat, by omega⟩
    rw [cutNum, Int.toNat_natCast] at h
    by_cases hok : okD rr k
    · rw [if_pos hok] at h
      cases h
    · clear h
      have hl := hs.1.1
      simp only [List.length_cons] at hl
      have hnp : 0 < n := by omega
      have hcm := hs.1.2.1
      unfold maxLen at hcm
      obtain ⟨b, off, rfl, hc0⟩ := hs.1.addr 0 hnp
      rw [Nat.add_zero] at hc0
      have hc1 : w.cell? ⟨b, off, none⟩ = some (.int .u8 (k : Int)) := hc0
      have HT := Lib.hid (show Sl w.drew _ _ _ rr from Still.sl (hs.tail 1 (by omega)) (Still.refl w).drew)
      have hsl : ∀ W : World, (Instr.slice 36 (.slice (some ⟨b, off, none⟩) n cap) (some (.int .i64 1)) none none).run Tryz.prog W = .ok (.slice (some (past ⟨b, off, none⟩ cap 1)) (n - 1) (cap - 1)) W := run_tail .i64 ⟨b, off, none⟩ rfl n cap 1 (by omega) hs.2.1
      have HSP := Lib.hid (show (past ⟨b, off, none⟩ cap 1).spot = none by unfold past; split <;> rfl)
      generalize past ⟨b, off, none⟩ cap 1 = a1 at *
      have HOK := Lib.hid hok
      have hk255 : k ≤ 255 := by omega
      have hwk : IntKind.i64.wrap (k : Int) = (k : Int) := IntWalk.i64_in _ (by omega)
      clear hs hc0 hl hok hc
      go_enter Tryz.func125, Tryz.ntmps125
      go_wp2_with (go_at_call 101; refine (demand_ok _).mono ?_; rintro e w' ⟨rfl, rfl⟩)
      go_region_dies
      all_goals (refine (cutD_bad a1 HSP.out _ _ k rr _ HT.out HOK.out hk255).mono ?_; rintro e w' ⟨rfl, hst⟩; exact ⟨rfl, rfl, (Still.refl w).drew.trans hst⟩)

theorem Sl.cut {w : World} {A : Option Addr} {n cap : Nat} {xs : List Int} (h : Sl w A n cap xs) (N : Nat) (hN : N ≤ n) : Sl w A N cap (xs.take N) := ⟨h.1.cut N hN, by have := h.2.1; omega, h.2.2⟩
/-- two pieces: a text, and the bytes behind it -/
def CutTxt (w : World) (zs rs : List Int) (e : Ending) (w' : World) : Prop := ∃ a n cap a2 n2 cap2, e = .returned (.tuple #[.slice (some a) n cap, .slice (some a2) n2 cap2]) ∧ Sl w' (some a) n cap zs ∧ Sl w' (some a2) n2 cap2 rs ∧ Still w w'

set_option maxHeartbeats 800000 in
theorem cutT_ok (A : Option Addr) (n cap : Nat) (zs : List Int) (w : World) (hs : Sl w A n cap zs) (t r : List Int) (h : cutText zs = some (t, r)) :
    Calls Tryz.prog 99 #[.slice A n cap] w (CutTxt w t r) := by
  unfold cutText at h
  cases hc : cutNum zs with
  | none => rw [hc] at h; cases h
  | some q =>
    obtain ⟨m, rr⟩ := q
    rw [hc] at h
    simp only at h
    by_cases hm : m ≤ rr.length
    · rw [if_pos hm] at h
      simp only [Option.some.injEq, Prod.mk.injEq] at h
      obtain ⟨rfl, rfl⟩ := h
      have HN := Lib.hid (cutN_ok A n cap zs w hs m rr hc)
      clear hc hs
      go_enter Tryz.func99, Tryz.ntmps99
      go_wp2_with fail
      refine HN.out.mono ?_
      rintro e w1 ⟨a, n1, cap1, rfl, hs1, hst⟩
      have HS := Lib.hid hs1
      have HST := Lib.hid hst
      have hl1 := hs1.1.1
      rw [hl1] at hm
      have hcm := hs1.2.2.1
      have hnc := hs1.2.1
      unfold maxLen at hcm
      have hsp := hs1.2.2.2.2 a rfl
      have hsl := run_tail .u64 a hsp n1 cap1 m hm hnc
      obtain ⟨b, off, sp⟩ := a
      obtain rfl : sp = none := hsp
      have HT := Lib.hid (hs1.tail m hm)
      have HC := Lib.hid (hs1.cut m hm)
      clear hs1 hst hl1
      have j1 : (m : Int) ≤ (n1 : Int) := by omega
      have j2 : (m : Int) ≤ (cap1 : Int) := by omega
      have j0 : (0 : Int) ≤ (m : Int) := by omega
      have HSL := Lib.hid hsl
      clear hsl
      go_wp2_with (go_at_call 101; refine (demand_ok _).mono ?_; rintro e w' ⟨rfl, rfl⟩)
      have hsl := HSL.out
      go_quiet (fail)
      go_wp2
      go_ret2
      exact ⟨_, _, _, _, _, _, rfl, Still.sl HC.out (Still.drewN (Still.refl _) _), Still.sl HT.out (Still.drewN (Still.refl _) _), HST.out.trans (Still.drewN (Still.refl _) _)⟩
    · rw [if_neg hm] at h
      cases h
set_option maxHeartbeats 800000 in
theorem cutT_bad (A : Option Addr) (n cap : Nat) (zs : List Int) (w : World) (hs : Sl w A n cap zs) (h : cutText zs = none) :
    Calls Tryz.prog 99 #[.slice A n cap] w (CutBad w) := by
  unfold cutText at h
  cases hc : cutNum zs with
  | none =>
    have HN := Lib.hid (cutN_bad A n cap zs w hs hc)
    clear hc hs h
    go_enter Tryz.func99, Tryz.ntmps99
    go_wp2_with fail
    refine HN.out.mono ?_
    rintro e w1 ⟨rfl, hst⟩
    exact ⟨rfl, rfl, hst⟩
  | some q =>
    obtain ⟨m, rr⟩ := q
    rw [hc] at h
    simp only at h
    by_cases hm : m ≤ rr.length
    · rw [if_pos hm] at h
      cases h
    · clear h
      have HN := Lib.hid (cutN_ok A n cap zs w hs m rr hc)
      clear hc hs
      go_enter Tryz.func99, Tryz.ntmps99
      go_wp2_with fail
      refine HN.out.mono ?_
      rintro e w1 ⟨a, n1, cap1, rfl, hs1, hst⟩
      have HST := Lib.hid hst
      have hl1 := hs1.1.1
      rw [hl1] at hm
      have hcm := hs1.1.2.1
      unfold maxLen at hcm
      have d2 : decide ((m : Int) ≤ (n1 : Int)) = false := by simp; omega
      have d3 : decide (m ≤ n1) = false := by simp; omega
      clear hs1 hst hl1
      go_wp2_with (go_at_call 101; refine (demand_bad _).mono ?_; rintro e w' ⟨rfl, rfl⟩)
      exact ⟨rfl, rfl, HST.out⟩
end Go.Proofs.YtejphnbhcabchaaGreat.Fld
