/-
  What the inner function cutInt of package field's reader answers for whatever bytes it is given: the whole number that stands first, cut off, or the panic with ErrForm. Conditions: the slice can be read (Sl).
-/
import Derived.Test.YtiegihopjhbliaaFieldCutB
namespace Go.Proofs.Ytiegihopjhbliaa.Fld
open Go.RowKit

theorem neg_back (v : Nat) (h : v ≤ 9223372036854775808) : wrap64 (IntKind.u64.wrap (-(v : Int))) = -(v : Int) := by
  rw [IntKind.wrap_u64]
  unfold wrap64
  omega
theorem cutInt_low (k : Nat) (rr : List Int) (hk : k ≤ 8) : cutInt ((k : Int) :: rr) = if okD rr k ∧ val (rr.take k) ≤ 9223372036854775807 then some ((val (rr.take k) : Int), rr.drop k) else none := by
  rw [cutInt, if_pos (by omega), Int.toNat_natCast]
theorem cutInt_high (q : Nat) (rr : List Int) (hq : 0 < q) : cutInt (((q : Int) + 16) :: rr) = if okD rr q ∧ val (rr.take q) ≤ 9223372036854775808 then some (-(val (rr.take q) : Int), rr.drop q) else none := by
  rw [cutInt, if_neg (by omega), show ((q : Int) + 16 - 16).toNat = q by omega]
  by_cases h : okD rr q ∧ val (rr.take q) ≤ 9223372036854775808
  · rw [if_pos h, if_pos ⟨by omega, h⟩]
  · rw [if_neg h, if_neg (fun h' => h h'.2)]
theorem cutInt_mid (c : Int) (rr : List Int) (h1 : 8 < c) (h2 : c ≤ 16) : cutInt (c :: rr) = none := by
  rw [cutInt, if_neg (by omega), if_neg (fun h => by omega)]

set_option maxHeartbeats 800000 in
theorem cutI_low (A : Option Addr) (n cap k : Nat) (rr : List Int) (w : World) (hs : Sl w A n cap ((k : Int) :: rr)) (hk : k ≤ 8) (x : Int) (r : List Int) (h : cutInt ((k : Int) :: rr) = some (x, r)) :
    Calls Try.prog 37 #[.slice A n cap] w (CutOk w (.int .i64 x) r) := by
  rw [cutInt_low k rr hk] at h
  by_cases hok : okD rr k ∧ val (rr.take k) ≤ 9223372036854775807
  · rw [if_pos hok] at h
    simp only [Option.some.injEq, Prod.mk.injEq] at h
    obtain ⟨rfl, rfl⟩ := h
    have hcn : cutNum ((k : Int) :: rr) = some (val (rr.take k), rr.drop k) := by rw [cutNum, Int.toNat_natCast, if_pos hok.1]
    have HN := Lib.hid (cutN_ok A n cap _ w hs _ _ hcn)
    have hv := hok.2
    generalize val (rr.take k) = v at *
    have hvi : (v : Int) ≤ 9223372036854775807 := by omega
    have hl := hs.1.1
    simp only [List.length_cons] at hl
    have hnp : 0 < n := by omega
    have hcm := hs.1.2.1
    unfold maxLen at hcm
    obtain ⟨b, off, rfl, hc0⟩ := hs.1.addr 0 hnp
    rw [Nat.add_zero] at hc0
    have hc1 : w.cell? ⟨b, off, none⟩ = some (.int .u8 (k : Int)) := hc0
    clear hcn hok hs hc0 hl
    go_enter Try.func37, Try.ntmps37
    go_wp2_with (go_at_call 34; refine (demand_ok _).mono ?_; rintro e w' ⟨rfl, rfl⟩)
    refine HN.out.mono ?_
    rintro e w1 ⟨a, n1, cap1, rfl, hs1, hst⟩
    have HS := Lib.hid hs1
    have HST := Lib.hid hst
    clear hs1 hst
    go_wp2_with (go_at_call 34; refine (demand_ok _).mono ?_; rintro e w' ⟨rfl, rfl⟩)
    go_ret2
    exact ⟨_, _, _, rfl, HS.out, HST.out⟩
  · rw [if_neg hok] at h
    cases h

set_option maxHeartbeats 800000 in
theorem cutI_high (A : Option Addr) (n cap q : Nat) (rr : List Int) (w : World) (hs : Sl w A n cap (((q : Int) + 16) :: rr)) (hq : 0 < q) (x : Int) (r : List Int) (h : cutInt (((q : Int) + 16) :: rr) = some (x, r)) :
    Calls Try.prog 37 #[.slice A n cap] w (CutOk w (.int .i64 x) r) := by
  rw [cutInt_high q rr hq] at h
  by_cases hok : okD rr q ∧ val (rr.take q) ≤ 9223372036854775808
  · rw [if_pos hok] at h
    simp only [Option.some.injEq, Prod.mk.injEq] at h
    obtain ⟨rfl, rfl⟩ := h
    have hq8 := hok.1.1
    have HOK := Lib.hid hok.1
    have hv := hok.2
    have HNB := Lib.hid (neg_back _ hv)
    generalize hV : val (rr.take q) = v at *
    have HV := Lib.hid hV
    clear hV
    have hvi : (v : Int) ≤ 9223372036854775808 := by omega
    have hl := hs.1.1
    simp only [List.length_cons] at hl
    have hnp : 0 < n := by omega
    have hcm := hs.1.2.1
    unfold maxLen at hcm
    obtain ⟨b, off, rfl, hc0⟩ := hs.1.addr 0 hnp
    rw [Nat.add_zero] at hc0
    have hc1 : w.cell? ⟨b, off, none⟩ = some (.int .u8 ((q : Int) + 16)) := hc0
    have HT := Lib.hid (show Sl w.drew _ _ _ rr from Still.sl (hs.tail 1 (by omega)) (Still.refl w).drew)
    have hsl : ∀ W : World, (Instr.slice 23 (.slice (some ⟨b, off, none⟩) n cap) (some (.int .i64 1)) none none).run Try.prog W = .ok (.slice (some (past ⟨b, off, none⟩ cap 1)) (n - 1) (cap - 1)) W := run_tail .i64 ⟨b, off, none⟩ rfl n cap 1 (by omega) hs.2.1
    have HSP := Lib.hid (show (past ⟨b, off, none⟩ cap 1).spot = none by unfold past; split <;> rfl)
    generalize past ⟨b, off, none⟩ cap 1 = a1 at *
    clear hs hc0 hl hok
    have w1 : IntKind.i64.wrap ((q : Int) + 16) = (q : Int) + 16 := IntWalk.i64_in _ (by omega)
    have w2 : IntKind.i64.wrap ((q : Int) + 16 - 16) = (q : Int) := (IntWalk.i64_in _ (by omega)).trans (by omega)
    have w3 : IntKind.i64.wrap (q : Int) = (q : Int) := IntWalk.i64_in _ (by omega)
    have g1 : ¬ ((q : Int) + 16 ≤ 8) := by omega
    have g2 : (16 : Int) < (q : Int) + 16 := by omega
    go_enter Try.func37, Try.ntmps37
    go_wp2_with (go_at_call 34; refine (demand_ok _).mono ?_; rintro e w' ⟨rfl, rfl⟩)
    go_region_with ((go_at_call 40; refine (cutD_ok a1 HSP.out _ _ q rr _ HT.out HOK.out).mono ?_; rintro e w' ⟨A', n', cap', rfl, hs', hst⟩; have HS' := Lib.hid hs'; have HST := Lib.hid hst; clear hs' hst))
    all_goals rw [HV.out]
    all_goals clear w1 w2 w3 g1 g2
    all_goals go_wp2_with (go_at_call 34; refine (demand_ok _).mono ?_; rintro e w' ⟨rfl, rfl⟩)
    all_goals go_ret2
    all_goals exact ⟨_, _, _, by rw [HNB.out]; rfl, HS'.out, (Still.refl w).drew.trans HST.out⟩
  · rw [if_neg hok] at h
    cases h

set_option maxHeartbeats 800000 in
theorem cutI_bad_low (A : Option Addr) (n cap k : Nat) (rr : List Int) (w : World) (hs : Sl w A n cap ((k : Int) :: rr)) (hk : k ≤ 8) (h : cutInt ((k : Int) :: rr) = none) :
    Calls Try.prog 37 #[.slice A n cap] w (CutBad w) := by
  rw [cutInt_low k rr hk] at h
  have hl := hs.1.1
  simp only [List.length_cons] at hl
  have hnp : 0 < n := by omega
  have hcm := hs.1.2.1
  unfold maxLen at hcm
  obtain ⟨b, off, rfl, hc0⟩ := hs.1.addr 0 hnp
  rw [Nat.add_zero] at hc0
  have hc1 : w.cell? ⟨b, off, none⟩ = some (.int .u8 (k : Int)) := hc0
  clear hc0 hl
  by_cases hok : okD rr k
  · have hv : ¬ val (rr.take k) ≤ 9223372036854775807 := fun hv => by rw [if_pos ⟨hok, hv⟩] at h; cases h
    have hcn : cutNum ((k : Int) :: rr) = some (val (rr.take k), rr.drop k) := by rw [cutNum, Int.toNat_natCast, if_pos hok]
    have HN := Lib.hid (cutN_ok _ n cap _ w hs _ _ hcn)
    generalize val (rr.take k) = v at *
    have hvi : decide ((v : Int) ≤ 9223372036854775807) = false := by simp; omega
    clear hcn hok hs h
    go_enter Try.func37, Try.ntmps37
    go_wp2_with (go_at_call 34; refine (demand_ok _).mono ?_; rintro e w' ⟨rfl, rfl⟩)
    refine HN.out.mono ?_
    rintro e w1 ⟨a, n1, cap1, rfl, hs1, hst⟩
    have HST := Lib.hid hst
    clear hs1 hst
    go_wp2_with (go_at_call 34; refine (demand_bad _).mono ?_; rintro e w' ⟨rfl, rfl⟩)
    exact ⟨rfl, rfl, HST.out⟩
  · have hcn : cutNum ((k : Int) :: rr) = none := by rw [cutNum, Int.toNat_natCast, if_neg hok]
    have HN := Lib.hid (cutN_bad _ n cap _ w hs hcn)
    clear hcn hok hs h
    go_enter Try.func37, Try.ntmps37
    go_wp2_with (go_at_call 34; refine (demand_ok _).mono ?_; rintro e w' ⟨rfl, rfl⟩)
    refine HN.out.mono ?_
    rintro e w1 ⟨rfl, hst⟩
    exact ⟨rfl, rfl, hst⟩

set_option maxHeartbeats 800000 in
theorem cutI_bad_mid (A : Option Addr) (n cap : Nat) (c : Int) (rr : List Int) (w : World) (hs : Sl w A n cap (c :: rr)) (h1 : 8 < c) (h2 : c ≤ 16) :
    Calls Try.prog 37 #[.slice A n cap] w (CutBad w) := by
  have hl := hs.1.1
  simp only [List.length_cons] at hl
  have hnp : 0 < n := by omega
  have hcm := hs.1.2.1
  unfold maxLen at hcm
  obtain ⟨b, off, rfl, hc0⟩ := hs.1.addr 0 hnp
  rw [Nat.add_zero] at hc0
  have hc1 : w.cell? ⟨b, off, none⟩ = some (.int .u8 c) := hc0
  clear hc0 hl hs
  have g1 : ¬ (c ≤ 8) := by omega
  have g2 : decide ((16 : Int) < c) = false := by simp; omega
  go_enter Try.func37, Try.ntmps37
  go_wp2_with (first | (go_at_call_of 34 (Value.bool true); refine (demand_ok _).mono ?_; rintro e w' ⟨rfl, rfl⟩) | (go_at_call_of 34 (Value.bool false); refine (demand_bad _).mono ?_; rintro e w' ⟨rfl, rfl⟩))
  exact ⟨rfl, rfl, Still.refl _⟩

set_option maxHeartbeats 800000 in
theorem cutI_bad_nil (A : Option Addr) (cap : Nat) (w : World) : Calls Try.prog 37 #[.slice A 0 cap] w (CutBad w) := by
  go_enter Try.func37, Try.ntmps37
  go_wp2_with (go_at_call 34; refine (demand_bad _).mono ?_; rintro e w' ⟨rfl, rfl⟩)
  exact ⟨rfl, rfl, Still.refl _⟩

set_option maxHeartbeats 800000 in
theorem cutI_bad_high (A : Option Addr) (n cap q : Nat) (rr : List Int) (w : World) (hs : Sl w A n cap (((q : Int) + 16) :: rr)) (hq : 0 < q) (hq2 : q ≤ 239) (h : cutInt (((q : Int) + 16) :: rr) = none) :
    Calls Try.prog 37 #[.slice A n cap] w (CutBad w) := by
  rw [cutInt_high q rr hq] at h
  have hl := hs.1.1
  simp only [List.length_cons] at hl
  have hnp : 0 < n := by omega
  have hcm := hs.1.2.1
  unfold maxLen at hcm
  obtain ⟨b, off, rfl, hc0⟩ := hs.1.addr 0 hnp
  rw [Nat.add_zero] at hc0
  have hc1 : w.cell? ⟨b, off, none⟩ = some (.int .u8 ((q : Int) + 16)) := hc0
  have HT := Lib.hid (show Sl w.drew _ _ _ rr from Still.sl (hs.tail 1 (by omega)) (Still.refl w).drew)
  have hsl : ∀ W : World, (Instr.slice 23 (.slice (some ⟨b, off, none⟩) n cap) (some (.int .i64 1)) none none).run Try.prog W = .ok (.slice (some (past ⟨b, off, none⟩ cap 1)) (n - 1) (cap - 1)) W := run_tail .i64 ⟨b, off, none⟩ rfl n cap 1 (by omega) hs.2.1
  have HSP := Lib.hid (show (past ⟨b, off, none⟩ cap 1).spot = none by unfold past; split <;> rfl)
  generalize past ⟨b, off, none⟩ cap 1 = a1 at *
  clear hs hc0 hl
  have w1 : IntKind.i64.wrap ((q : Int) + 16) = (q : Int) + 16 := IntWalk.i64_in _ (by omega)
  have w2 : IntKind.i64.wrap ((q : Int) + 16 - 16) = (q : Int) := (IntWalk.i64_in _ (by omega)).trans (by omega)
  have w3 : IntKind.i64.wrap (q : Int) = (q : Int) := IntWalk.i64_in _ (by omega)
  have g1 : ¬ ((q : Int) + 16 ≤ 8) := by omega
  have g2 : (16 : Int) < (q : Int) + 16 := by omega
  by_cases hok : okD rr q
  · have hv : ¬ val (rr.take q) ≤ 9223372036854775808 := fun hv => by rw [if_pos ⟨hok, hv⟩] at h; cases h
    have HOK := Lib.hid hok
    generalize hV : val (rr.take q) = v at *
    have HV := Lib.hid hV
    have hvi : decide ((v : Int) ≤ 9223372036854775808) = false := by simp; omega
    clear hok h hV
    go_enter Try.func37, Try.ntmps37
    go_wp2_with (go_at_call 34; refine (demand_ok _).mono ?_; rintro e w' ⟨rfl, rfl⟩)
    go_region_with ((go_at_call 40; refine (cutD_ok a1 HSP.out _ _ q rr _ HT.out HOK.out).mono ?_; rintro e w' ⟨A', n', cap', rfl, hs', hst⟩; have HST := Lib.hid hst; clear hs' hst))
    all_goals rw [HV.out]
    all_goals clear w1 w2 w3 g1 g2
    all_goals go_wp2_with (go_at_call 34; refine (demand_bad _).mono ?_; rintro e w' ⟨rfl, rfl⟩)
    all_goals exact ⟨rfl, rfl, (Still.refl w).drew.trans HST.out⟩
  · have HOK := Lib.hid hok
    clear hok h
    go_enter Try.func37, Try.ntmps37
    go_wp2_with (go_at_call 34; refine (demand_ok _).mono ?_; rintro e w' ⟨rfl, rfl⟩)
    go_region_dies
    all_goals (refine (cutD_bad a1 HSP.out _ _ q rr _ HT.out HOK.out (by omega)).mono ?_; rintro e w' ⟨rfl, hst⟩; exact ⟨rfl, rfl, (Still.refl w).drew.trans hst⟩)

theorem cutI_ok (A : Option Addr) (n cap : Nat) (zs : List Int) (w : World) (hs : Sl w A n cap zs) (x : Int) (r : List Int) (h : cutInt zs = some (x, r)) : Calls Try.prog 37 #[.slice A n cap] w (CutOk w (.int .i64 x) r) := by
  cases zs with
  | nil => simp [cutInt] at h
  | cons c rr =>
    have hc := hs.1.2.2.1 c (by simp)
    by_cases h8 : c ≤ 8
    · obtain ⟨k, rfl⟩ : ∃ k : Nat, c = (k : Int) := ⟨c.toNat, by omega⟩
      exact cutI_low A n cap k rr w hs (by omega) x r h
    · by_cases h16 : c ≤ 16
      · rw [cutInt_mid c rr (by omega) h16] at h
        cases h
      · obtain ⟨q, rfl⟩ : ∃ q : Nat, c = (q : Int) + 16 := ⟨(c - 16).toNat, by omega⟩
        exact cutI_high A n cap q rr w hs (by omega) x r h
theorem cutI_bad (A : Option Addr) (n cap : Nat) (zs : List Int) (w : World) (hs : Sl w A n cap zs) (h : cutInt zs = none) : Calls Try.prog 37 #[.slice A n cap] w (CutBad w) := by
  cases zs with
  | nil =>
    obtain rfl : n = 0 := by have := hs.1.1; simpa using this.symm
    exact cutI_bad_nil A cap w
  | cons c rr =>
    have hc := hs.1.2.2.1 c (by simp)
    by_cases h8 : c ≤ 8
    · obtain ⟨k, rfl⟩ : ∃ k : Nat, c = (k : Int) := ⟨c.toNat, by omega⟩
      exact cutI_bad_low A n cap k rr w hs (by omega) h
    · by_cases h16 : c ≤ 16
      · exact cutI_bad_mid A n cap c rr w hs (by omega) h16
      · obtain ⟨q, rfl⟩ : ∃ q : Nat, c = (q : Int) + 16 := ⟨(c - 16).toNat, by omega⟩
        exact cutI_bad_high A n cap q rr w hs (by omega) (by omega) h
end Go.Proofs.Ytiegihopjhbliaa.Fld
