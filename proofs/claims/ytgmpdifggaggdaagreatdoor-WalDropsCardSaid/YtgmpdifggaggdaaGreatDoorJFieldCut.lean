/-
  Several texts in one: What the inner functions of package field's reader (demand, cutDigits, cutNumber, cutInt, cutText) answer for whatever bytes they are given: what stands first, cut off, or the panic with ErrForm. Conditions: the slice can be read (Sl). What the inner functions cutNumber, cutInt and cutText of package field's reader answer for whatever bytes they are given: what stands first, cut off, or the panic with ErrForm. Conditions: the slice can be read (Sl). What the inner function cutInt of package field's reader answers for whatever bytes it is given: the whole number that stands first, cut off, or the panic with ErrForm. Conditions: the slice can be read (Sl).
-/
import Derived.Test.YtgmpdifggaggdaaGreatDoorJFieldBase
import Derived.Deep.RegionWith
import Derived.Laws.BitsAllLaws
import Derived.Deep.QuietTactic
import Derived.BigQuiet
import Derived.RegionDies
namespace Go.Proofs.YtgmpdifggaggdaaGreatDoor.Fld
open Go.RowKit

/-- the memory is as it was -/
def Still (w w' : World) : Prop := w'.heap = w.heap ∧ w'.os = w.os ∧ w'.tape = w.tape ∧ w'.output = w.output
theorem Still.refl (w : World) : Still w w := ⟨rfl, rfl, rfl, rfl⟩
theorem Still.trans {a b c : World} (h : Still a b) (k : Still b c) : Still a c := ⟨k.1.trans h.1, k.2.1.trans h.2.1, k.2.2.1.trans h.2.2.1, k.2.2.2.trans h.2.2.2⟩
theorem Still.drew {a b : World} (h : Still a b) : Still a b.drew := h
theorem Still.drewN {a b : World} (h : Still a b) (n : Nat) : Still a (b.drewN n) := by
  exact h
theorem Still.cell {w w' : World} (h : Still w w') (a : Addr) : w'.cell? a = w.cell? a := by
  unfold World.cell?
  rw [h.1]
theorem Still.sl {w w' : World} {A : Option Addr} {n cap : Nat} {zs : List Int} (hs : Sl w A n cap zs) (h : Still w w') : Sl w' A n cap zs := ⟨hs.1.of_same fun a _ _ => h.cell a, hs.2⟩

/-- the panic that the reader's methods recover from -/
def errP : List PanicEntry := [{ v := .iface 30 (.int .i64 6), recovered := false }]
theorem demand_ok (w : World) : Calls Tryz.prog 161 #[.bool true] w fun e w' => e = .returned (.tuple #[]) ∧ w = w' := by
  go_enter Tryz.func161, Tryz.ntmps161
  go_wp2
  go_end0
  exact ⟨rfl, rfl⟩
theorem demand_bad (w : World) : Calls Tryz.prog 161 #[.bool false] w fun e w' => e = .panicked errP ∧ w = w' := by
  go_enter Tryz.func161, Tryz.ntmps161
  go_wp2
  exact ⟨rfl, rfl, rfl⟩

/-- 's[k:]' -/
theorem run_tail (kd : IntKind) (a : Addr) (ha : a.spot = none) (n cap k : Nat) (hk : k ≤ n) (hn : n ≤ cap) (W : World) :
    (Instr.slice 45 (.slice (some a) n cap) (some (.int kd (k : Int))) none none).run Tryz.prog W = .ok (.slice (some (past a cap k)) (n - k) (cap - k)) W := by
  obtain ⟨b, off, s⟩ := a
  obtain rfl : s = none := ha
  unfold past
  by_cases h : cap = k
  · have : n = k := by omega
    subst this
    subst h
    go_simp
  · have h1 : (0 : Int) ≤ (k : Int) := by omega
    have h2 : (k : Int) ≤ (n : Int) := by omega
    go_simp

/-- a value, and the bytes behind it -/
def CutOk (w : World) (v : Value) (zs : List Int) (e : Ending) (w' : World) : Prop := ∃ a n cap, e = .returned (.tuple #[v, .slice (some a) n cap]) ∧ Sl w' (some a) n cap zs ∧ Still w w'
def CutBad (w : World) (e : Ending) (w' : World) : Prop := e = .panicked errP ∧ Still w w'

theorem or_digit (v : Nat) (c : Int) (hv : v < 72057594037927936) (h0 : 0 ≤ c) (h1 : c ≤ 255) : bits .or .u64 ((v : Int) * 256) c = ((v * 256 + c.toNat : Nat) : Int) := by
  rw [u64_or _ _ (by omega) (by omega) h0 (by omega)]
  congr 1
  have e : ((v : Int) * 256).toNat = v <<< 8 := by rw [Nat.shiftLeft_eq]; omega
  rw [e, ← Nat.shiftLeft_add_eq_or_of_lt (show c.toNat < 2 ^ 8 by omega), Nat.shiftLeft_eq]
theorem val_take (zs : List Int) (j : Nat) (h : j < zs.length) : val (zs.take (j + 1)) = val (zs.take j) * 256 + (zs.getD j 0).toNat := by
  rw [List.take_succ_eq_append_getElem h, val_snoc]
  simp [h]

set_option maxHeartbeats 800000 in
theorem cutD_ok (a : Addr) (ha : a.spot = none) (n cap k : Nat) (zs : List Int) (w : World) (hs : Sl w (some a) n cap zs) (hok : okD zs k) :
    Calls Tryz.prog 172 #[.slice (some a) n cap, .int .i64 (k : Int)] w (CutOk w (.int .u64 (val (zs.take k) : Nat)) (zs.drop k)) := by
  obtain ⟨h8, hkl, hz⟩ := hok
  have hl := hs.1.1
  rw [hl] at hkl
  have hnc := hs.2.1
  have hcm := hs.2.2.1
  have hsl := run_tail .i64 a ha n cap k hkl hnc
  unfold maxLen at hcm
  obtain ⟨b, off, sp⟩ := a
  obtain rfl : sp = none := ha
  have HS := Lib.hid hs
  have HL := Lib.hid hl
  have HZ := Lib.hid hz
  have HSL := Lib.hid hsl
  clear hs hl hz hsl
  have main : (((k : Int) == 0) = true ∨ (((k : Int) == 0) = false ∧ 0 < n ∧ ∃ c0 : Int, w.cell? ⟨b, off, none⟩ = some (.int .u8 c0) ∧ (c0 != 0) = true)) := by
    by_cases hk0 : k = 0
    · left; simp; omega
    · right
      refine ⟨by simp; omega, by omega, ?_⟩
      obtain ⟨b', off', he, hc0⟩ := HS.out.1.addr 0 (by omega)
      injection he with he
      injection he with e1 e2
      subst e1 e2
      refine ⟨_, hc0, ?_⟩
      rcases HZ.out with h | h
      · omega
      · simpa using h
  have j1 : (k : Int) ≤ 8 := by omega
  have j2 : (k : Int) ≤ (n : Int) := by omega
  have j3 : (k : Int) ≤ (cap : Int) := by omega
  have j0 : (0 : Int) ≤ (k : Int) := by omega
  rcases main with hk0 | ⟨hk0, hnp, c0, hc0, hne⟩
  all_goals
    go_enter Tryz.func172, Tryz.ntmps172
    go_wp2_with (go_at_call 161; refine (demand_ok _).mono ?_; rintro e w' ⟨rfl, rfl⟩)
    first
      | clear hk0 hc0 hne
      | clear hk0
    go_loop [6, 31] (fun v i => ∃ j : Nat, j ≤ k ∧ i = .int .i64 j ∧ v = .int .u64 (val (zs.take j) : Nat)) (fun _ i => k - (intOf i).toNat)
    case atStart => exact ⟨0, by omega, rfl, rfl⟩
    case round =>
      obtain ⟨j, hj, rfl, rfl⟩ := hrel
      by_cases hlt : j < k
      · obtain ⟨b', off', he, hc⟩ := HS.out.1.addr j (by omega)
        injection he with he
        injection he with e1 e2
        subst e1 e2
        generalize hcg : zs.getD j 0 = c at hc
        have HCG := Lib.hid hcg
        have hcb := getD_byte HS.out.1.2.2.1 j (by rw [HL.out]; omega)
        rw [hcg] at hcb
        clear hcg
        have HV := Lib.hid (val_take zs j (by rw [HL.out]; omega))
        rw [HCG.out] at HV
        have hvl : val (zs.take j) < 72057594037927936 := by
          have h1 := val_lt j (zs.take j) (by rw [List.length_take, HL.out]; omega) (bytes_take HS.out.1.2.2.1 j)
          have h2 : (256 : Nat) ^ j ≤ 256 ^ 7 := Nat.pow_le_pow_right (by omega) (by omega)
          have h3 : (256 : Nat) ^ 7 = 72057594037927936 := by decide
          omega
        have HOR := Lib.hid (or_digit _ c hvl hcb.1 hcb.2)
        rw [← HV.out] at HOR
        go_wp2
        go_round
        case rel => exact ⟨j + 1, by omega, by go_num, congrArg (Value.int .u64) HOR.out⟩
        case measure => simp [intOf]; omega
      · obtain rfl : j = k := by omega
        have hsl := HSL.out
        have HT := Lib.hid (HS.out.tail j hkl)
        go_wp2_with fail
        go_quiet (fail)
        go_wp2
        go_ret2
        exact ⟨_, _, _, rfl, Still.sl HT.out (Still.drewN (Still.refl _) _), Still.drewN (Still.refl _) _⟩

set_option maxHeartbeats 800000 in
theorem cutD_bad (a : Addr) (ha : a.spot = none) (n cap k : Nat) (zs : List Int) (w : World) (hs : Sl w (some a) n cap zs) (hok : ¬ okD zs k) (hk : k ≤ 255) :
    Calls Tryz.prog 172 #[.slice (some a) n cap, .int .i64 (k : Int)] w (CutBad w) := by
  have hl := hs.1.1
  have hcm := hs.1.2.1
  unfold maxLen at hcm
  obtain ⟨b, off, sp⟩ := a
  obtain rfl : sp = none := ha
  by_cases h8 : 8 < k
  · clear hs hok hl
    have d1 : decide ((k : Int) ≤ 8) = false := by simp; omega
    go_enter Tryz.func172, Tryz.ntmps172
    go_wp2_with (go_at_call 161; refine (demand_bad _).mono ?_; rintro e w' ⟨rfl, rfl⟩)
    exact ⟨rfl, rfl, Still.refl _⟩
  · by_cases hn : n < k
    · clear hs hok hl
      have d1 : (k : Int) ≤ 8 := by omega
      have d2 : decide ((k : Int) ≤ (n : Int)) = false := by simp; omega
      have d3 : decide (k ≤ n) = false := by simp; omega
      go_enter Tryz.func172, Tryz.ntmps172
      go_wp2_with (go_at_call 161; refine (demand_bad _).mono ?_; rintro e w' ⟨rfl, rfl⟩)
      exact ⟨rfl, rfl, Still.refl _⟩
    · have hk0 : ¬ k = 0 := fun h => hok ⟨by omega, by omega, .inl h⟩
      have hz : zs.getD 0 0 = 0 := by
        by_cases h : zs.getD 0 0 = 0
        · exact h
        · exact absurd ⟨by omega, by omega, .inr h⟩ hok
      obtain ⟨b', off', he, hc0⟩ := hs.1.addr 0 (by omega)
      injection he with he
      injection he with e1 e2
      subst e1 e2
      rw [hz, Nat.add_zero] at hc0
      clear hs hok hl hz
      have hnp : 0 < n := by omega
      have hk1 : ((k : Int) == 0) = false := by simp; omega
      have j1 : (k : Int) ≤ 8 := by omega
      have j2 : (k : Int) ≤ (n : Int) := by omega
      go_enter Tryz.func172, Tryz.ntmps172
      go_wp2_with (first | (go_at_call_of 161 (Value.bool true); refine (demand_ok _).mono ?_; rintro e w' ⟨rfl, rfl⟩) | (go_at_call_of 161 (Value.bool false); refine (demand_bad _).mono ?_; rintro e w' ⟨rfl, rfl⟩))
      exact ⟨rfl, rfl, Still.refl _⟩

set_option maxHeartbeats 800000 in
theorem cutN_ok (A : Option Addr) (n cap : Nat) (zs : List Int) (w : World) (hs : Sl w A n cap zs) (v : Nat) (r : List Int) (h : cutNum zs = some (v, r)) :
    Calls Tryz.prog 171 #[.slice A n cap] w (CutOk w (.int .u64 (v : Int)) r) := by
  cases zs with
  | nil => simp [cutNum] at h
  | cons c rr =>
    have hc := hs.1.2.2.1 c (by simp)
    obtain ⟨k, rfl⟩ : ∃ k : Nat, c = (k : Int) := ⟨c.toNat, by omega⟩
    rw [cutNum, Int.toNat_natCast] at h
    by_cases hok : okD rr k
    · rw [if_pos hok] at h
      simp only [Option.some.injEq, Prod.mk.injEq] at h
      obtain ⟨rfl, rfl⟩ := h
      have hl := hs.1.1
      simp only [List.length_cons] at hl
      have hnp : 0 < n := by omega
      have hcm := hs.1.2.1
      unfold maxLen at hcm
      obtain ⟨b, off, rfl, hc0⟩ := hs.1.addr 0 hnp
      rw [Nat.add_zero] at hc0
      have hc1 : w.cell? ⟨b, off, none⟩ = some (.int .u8 (k : Int)) := hc0
      have HT := Lib.hid (show Sl w.drew _ _ _ rr from Still.sl (hs.tail 1 (by omega)) (Still.refl w).drew)
      have hsl : ∀ W : World, (Instr.slice 45 (.slice (some ⟨b, off, none⟩) n cap) (some (.int .i64 1)) none none).run Tryz.prog W = .ok (.slice (some (past ⟨b, off, none⟩ cap 1)) (n - 1) (cap - 1)) W := run_tail .i64 ⟨b, off, none⟩ rfl n cap 1 (by omega) hs.2.1
      have HSP := Lib.hid (show (past ⟨b, off, none⟩ cap 1).spot = none by unfold past; split <;> rfl)
      generalize past ⟨b, off, none⟩ cap 1 = a1 at *
      have HOK := Lib.hid hok
      have hwk : IntKind.i64.wrap (k : Int) = (k : Int) := IntWalk.i64_in _ (by omega)
      clear hs hc0 hl hok hc
      go_enter Tryz.func171, Tryz.ntmps171
      go_wp2_with (go_at_call 161; refine (demand_ok _).mono ?_; rintro e w' ⟨rfl, rfl⟩)
      go_region_with ((go_at_call 172; refine (cutD_ok a1 HSP.out _ _ k rr _ HT.out HOK.out).mono ?_; rintro e w' ⟨A', n', cap', rfl, hs', hst⟩; have HS' := Lib.hid hs'; have HST := Lib.hid hst; clear hs' hst))
      all_goals go_wp2
      all_goals go_ret2
      all_goals exact ⟨_, _, _, rfl, HS'.out, (Still.refl w).drew.trans HST.out⟩
    · rw [if_neg hok] at h
      cases h

end Go.Proofs.YtgmpdifggaggdaaGreatDoor.Fld

namespace Go.Proofs.YtgmpdifggaggdaaGreatDoor.Fld
open Go.RowKit

set_option maxHeartbeats 800000 in
theorem cutN_bad (A : Option Addr) (n cap : Nat) (zs : List Int) (w : World) (hs : Sl w A n cap zs) (h : cutNum zs = none) :
    Calls Tryz.prog 171 #[.slice A n cap] w (CutBad w) := by
  cases zs with
  | nil =>
    obtain rfl : n = 0 := by have := hs.1.1; simpa using this.symm
    clear hs h
    go_enter Tryz.func171, Tryz.ntmps171
    go_wp2_with (go_at_call 161; refine (demand_bad _).mono ?_; rintro e w' ⟨rfl, rfl⟩)
    exact ⟨rfl, rfl, Still.refl _⟩
  | cons c rr =>
    have hc := hs.1.2.2.1 c (by simp)
    obtain ⟨k, rfl⟩ : ∃ k : Nat, c = (k : Int) := ⟨c.toNat, by omega⟩
    rw [cutNum, Int.toNat_natCast] at h
    by_cases hok : okD rr k
    · rw [if_pos hok] at h
      cases h
    · clear h
      have hl := hs.1.1
      simp only [List.length_cons] at hl
      have hnp : 0 < n := by omega
      have hcm := hs.1.2.1
      unfold maxLen at hcm
      obtain ⟨b, off, rfl, hc0⟩ := hs.1.addr 0 hnp
      rw [Nat.add_zero] at hc0
      have hc1 : w.cell? ⟨b, off, none⟩ = some (.int .u8 (k : Int)) := hc0
      have HT := Lib.hid (show Sl w.drew _ _ _ rr from Still.sl (hs.tail 1 (by omega)) (Still.refl w).drew)
      have hsl : ∀ W : World, (Instr.slice 45 (.slice (some ⟨b, off, none⟩) n cap) (some (.int .i64 1)) none none).run Tryz.prog W = .ok (.slice (some (past ⟨b, off, none⟩ cap 1)) (n - 1) (cap - 1)) W := run_tail .i64 ⟨b, off, none⟩ rfl n cap 1 (by omega) hs.2.1
      have HSP := Lib.hid (show (past ⟨b, off, none⟩ cap 1).spot = none by unfold past; split <;> rfl)
      generalize past ⟨b, off, none⟩ cap 1 = a1 at *
      have HOK := Lib.hid hok
      have hk255 : k ≤ 255 := by omega
      have hwk : IntKind.i64.wrap (k : Int) = (k : Int) := IntWalk.i64_in _ (by omega)
      clear hs hc0 hl hok hc
      go_enter Tryz.func171, Tryz.ntmps171
      go_wp2_with (go_at_call 161; refine (demand_ok _).mono ?_; rintro e w' ⟨rfl, rfl⟩)
      go_region_dies
      all_goals (refine (cutD_bad a1 HSP.out _ _ k rr _ HT.out HOK.out hk255).mono ?_; rintro e w' ⟨rfl, hst⟩; exact ⟨rfl, rfl, (Still.refl w).drew.trans hst⟩)

theorem Sl.cut {w : World} {A : Option Addr} {n cap : Nat} {xs : List Int} (h : Sl w A n cap xs) (N : Nat) (hN : N ≤ n) : Sl w A N cap (xs.take N) := ⟨h.1.cut N hN, by have := h.2.1; omega, h.2.2⟩
/-- two pieces: a text, and the bytes behind it -/
def CutTxt (w : World) (zs rs : List Int) (e : Ending) (w' : World) : Prop := ∃ a n cap a2 n2 cap2, e = .returned (.tuple #[.slice (some a) n cap, .slice (some a2) n2 cap2]) ∧ Sl w' (some a) n cap zs ∧ Sl w' (some a2) n2 cap2 rs ∧ Still w w'

set_option maxHeartbeats 800000 in
theorem cutT_ok (A : Option Addr) (n cap : Nat) (zs : List Int) (w : World) (hs : Sl w A n cap zs) (t r : List Int) (h : cutText zs = some (t, r)) :
    Calls Tryz.prog 163 #[.slice A n cap] w (CutTxt w t r) := by
  unfold cutText at h
  cases hc : cutNum zs with
  | none => rw [hc] at h; cases h
  | some q =>
    obtain ⟨m, rr⟩ := q
    rw [hc] at h
    simp only at h
    by_cases hm : m ≤ rr.length
    · rw [if_pos hm] at h
      simp only [Option.some.injEq, Prod.mk.injEq] at h
      obtain ⟨rfl, rfl⟩ := h
      have HN := Lib.hid (cutN_ok A n cap zs w hs m rr hc)
      clear hc hs
      go_enter Tryz.func163, Tryz.ntmps163
      go_wp2_with fail
      refine HN.out.mono ?_
      rintro e w1 ⟨a, n1, cap1, rfl, hs1, hst⟩
      have HS := Lib.hid hs1
      have HST := Lib.hid hst
      have hl1 := hs1.1.1
      rw [hl1] at hm
      have hcm := hs1.2.2.1
      have hnc := hs1.2.1
      unfold maxLen at hcm
      have hsp := hs1.2.2.2.2 a rfl
      have hsl := run_tail .u64 a hsp n1 cap1 m hm hnc
      obtain ⟨b, off, sp⟩ := a
      obtain rfl : sp = none := hsp
      have HT := Lib.hid (hs1.tail m hm)
      have HC := Lib.hid (hs1.cut m hm)
      clear hs1 hst hl1
      have j1 : (m : Int) ≤ (n1 : Int) := by omega
      have j2 : (m : Int) ≤ (cap1 : Int) := by omega
      have j0 : (0 : Int) ≤ (m : Int) := by omega
      have HSL := Lib.hid hsl
      clear hsl
      go_wp2_with (go_at_call 161; refine (demand_ok _).mono ?_; rintro e w' ⟨rfl, rfl⟩)
      have hsl := HSL.out
      go_quiet (fail)
      go_wp2
      go_ret2
      exact ⟨_, _, _, _, _, _, rfl, Still.sl HC.out (Still.drewN (Still.refl _) _), Still.sl HT.out (Still.drewN (Still.refl _) _), HST.out.trans (Still.drewN (Still.refl _) _)⟩
    · rw [if_neg hm] at h
      cases h
set_option maxHeartbeats 800000 in
theorem cutT_bad (A : Option Addr) (n cap : Nat) (zs : List Int) (w : World) (hs : Sl w A n cap zs) (h : cutText zs = none) :
    Calls Tryz.prog 163 #[.slice A n cap] w (CutBad w) := by
  unfold cutText at h
  cases hc : cutNum zs with
  | none =>
    have HN := Lib.hid (cutN_bad A n cap zs w hs hc)
    clear hc hs h
    go_enter Tryz.func163, Tryz.ntmps163
    go_wp2_with fail
    refine HN.out.mono ?_
    rintro e w1 ⟨rfl, hst⟩
    exact ⟨rfl, rfl, hst⟩
  | some q =>
    obtain ⟨m, rr⟩ := q
    rw [hc] at h
    simp only at h
    by_cases hm : m ≤ rr.length
    · rw [if_pos hm] at h
      cases h
    · clear h
      have HN := Lib.hid (cutN_ok A n cap zs w hs m rr hc)
      clear hc hs
      go_enter Tryz.func163, Tryz.ntmps163
      go_wp2_with fail
      refine HN.out.mono ?_
      rintro e w1 ⟨a, n1, cap1, rfl, hs1, hst⟩
      have HST := Lib.hid hst
      have hl1 := hs1.1.1
      rw [hl1] at hm
      have hcm := hs1.1.2.1
      unfold maxLen at hcm
      have d2 : decide ((m : Int) ≤ (n1 : Int)) = false := by simp; omega
      have d3 : decide (m ≤ n1) = false := by simp; omega
      clear hs1 hst hl1
      go_wp2_with (go_at_call 161; refine (demand_bad _).mono ?_; rintro e w' ⟨rfl, rfl⟩)
      exact ⟨rfl, rfl, HST.out⟩
end Go.Proofs.YtgmpdifggaggdaaGreatDoor.Fld

namespace Go.Proofs.YtgmpdifggaggdaaGreatDoor.Fld
open Go.RowKit

theorem neg_back (v : Nat) (h : v ≤ 9223372036854775808) : wrap64 (IntKind.u64.wrap (-(v : Int))) = -(v : Int) := by
  rw [IntKind.wrap_u64]
  unfold wrap64
  omega
theorem cutInt_low (k : Nat) (rr : List Int) (hk : k ≤ 8) : cutInt ((k : Int) :: rr) = if okD rr k ∧ val (rr.take k) ≤ 9223372036854775807 then some ((val (rr.take k) : Int), rr.drop k) else none := by
  rw [cutInt, if_pos (by omega), Int.toNat_natCast]
theorem cutInt_high (q : Nat) (rr : List Int) (hq : 0 < q) : cutInt (((q : Int) + 16) :: rr) = if okD rr q ∧ val (rr.take q) ≤ 9223372036854775808 then some (-(val (rr.take q) : Int), rr.drop q) else none := by
  rw [cutInt, if_neg (by omega), show ((q : Int) + 16 - 16).toNat = q by omega]
  by_cases h : okD rr q ∧ val (rr.take q) ≤ 9223372036854775808
  · rw [if_pos h, if_pos ⟨by omega, h⟩]
  · rw [if_neg h, if_neg (fun h' => h h'.2)]
theorem cutInt_mid (c : Int) (rr : List Int) (h1 : 8 < c) (h2 : c ≤ 16) : cutInt (c :: rr) = none := by
  rw [cutInt, if_neg (by omega), if_neg (fun h => by omega)]

set_option maxHeartbeats 800000 in
theorem cutI_low (A : Option Addr) (n cap k : Nat) (rr : List Int) (w : World) (hs : Sl w A n cap ((k : Int) :: rr)) (hk : k ≤ 8) (x : Int) (r : List Int) (h : cutInt ((k : Int) :: rr) = some (x, r)) :
    Calls Tryz.prog 159 #[.slice A n cap] w (CutOk w (.int .i64 x) r) := by
  rw [cutInt_low k rr hk] at h
  by_cases hok : okD rr k ∧ val (rr.take k) ≤ 9223372036854775807
  · rw [if_pos hok] at h
    simp only [Option.some.injEq, Prod.mk.injEq] at h
    obtain ⟨rfl, rfl⟩ := h
    have hcn : cutNum ((k : Int) :: rr) = some (val (rr.take k), rr.drop k) := by rw [cutNum, Int.toNat_natCast, if_pos hok.1]
    have HN := Lib.hid (cutN_ok A n cap _ w hs _ _ hcn)
    have hv := hok.2
    generalize val (rr.take k) = v at *
    have hvi : (v : Int) ≤ 9223372036854775807 := by omega
    have hl := hs.1.1
    simp only [List.length_cons] at hl
    have hnp : 0 < n := by omega
    have hcm := hs.1.2.1
    unfold maxLen at hcm
    obtain ⟨b, off, rfl, hc0⟩ := hs.1.addr 0 hnp
    rw [Nat.add_zero] at hc0
    have hc1 : w.cell? ⟨b, off, none⟩ = some (.int .u8 (k : Int)) := hc0
    clear hcn hok hs hc0 hl
    go_enter Tryz.func159, Tryz.ntmps159
    go_wp2_with (go_at_call 161; refine (demand_ok _).mono ?_; rintro e w' ⟨rfl, rfl⟩)
    refine HN.out.mono ?_
    rintro e w1 ⟨a, n1, cap1, rfl, hs1, hst⟩
    have HS := Lib.hid hs1
    have HST := Lib.hid hst
    clear hs1 hst
    go_wp2_with (go_at_call 161; refine (demand_ok _).mono ?_; rintro e w' ⟨rfl, rfl⟩)
    go_ret2
    exact ⟨_, _, _, rfl, HS.out, HST.out⟩
  · rw [if_neg hok] at h
    cases h

set_option maxHeartbeats 800000 in
theorem cutI_high (A : Option Addr) (n cap q : Nat) (rr : List Int) (w : World) (hs : Sl w A n cap (((q : Int) + 16) :: rr)) (hq : 0 < q) (x : Int) (r : List Int) (h : cutInt (((q : Int) + 16) :: rr) = some (x, r)) :
    Calls Tryz.prog 159 #[.slice A n cap] w (CutOk w (.int .i64 x) r) := by
  rw [cutInt_high q rr hq] at h
  by_cases hok : okD rr q ∧ val (rr.take q) ≤ 9223372036854775808
  · rw [if_pos hok] at h
    simp only [Option.some.injEq, Prod.mk.injEq] at h
    obtain ⟨rfl, rfl⟩ := h
    have hq8 := hok.1.1
    have HOK := Lib.hid hok.1
    have hv := hok.2
    have HNB := Lib.hid (neg_back _ hv)
    generalize hV : val (rr.take q) = v at *
    have HV := Lib.hid hV
    clear hV
    have hvi : (v : Int) ≤ 9223372036854775808 := by omega
    have hl := hs.1.1
    simp only [List.length_cons] at hl
    have hnp : 0 < n := by omega
    have hcm := hs.1.2.1
    unfold maxLen at hcm
    obtain ⟨b, off, rfl, hc0⟩ := hs.1.addr 0 hnp
    rw [Nat.add_zero] at hc0
    have hc1 : w.cell? ⟨b, off, none⟩ = some (.int .u8 ((q : Int) + 16)) := hc0
    have HT := Lib.hid (show Sl w.drew _ _ _ rr from Still.sl (hs.tail 1 (by omega)) (Still.refl w).drew)
    have hsl : ∀ W : World, (Instr.slice 45 (.slice (some ⟨b, off, none⟩) n cap) (some (.int .i64 1)) none none).run Tryz.prog W = .ok (.slice (some (past ⟨b, off, none⟩ cap 1)) (n - 1) (cap - 1)) W := run_tail .i64 ⟨b, off, none⟩ rfl n cap 1 (by omega) hs.2.1
    have HSP := Lib.hid (show (past ⟨b, off, none⟩ cap 1).spot = none by unfold past; split <;> rfl)
    generalize past ⟨b, off, none⟩ cap 1 = a1 at *
    clear hs hc0 hl hok
    have w1 : IntKind.i64.wrap ((q : Int) + 16) = (q : Int) + 16 := IntWalk.i64_in _ (by omega)
    have w2 : IntKind.i64.wrap ((q : Int) + 16 - 16) = (q : Int) := (IntWalk.i64_in _ (by omega)).trans (by omega)
    have w3 : IntKind.i64.wrap (q : Int) = (q : Int) := IntWalk.i64_in _ (by omega)
    have g1 : ¬ ((q : Int) + 16 ≤ 8) := by omega
    have g2 : (16 : Int) < (q : Int) + 16 := by omega
    go_enter Tryz.func159, Tryz.ntmps159
    go_wp2_with (go_at_call 161; refine (demand_ok _).mono ?_; rintro e w' ⟨rfl, rfl⟩)
    go_region_with ((go_at_call 172; refine (cutD_ok a1 HSP.out _ _ q rr _ HT.out HOK.out).mono ?_; rintro e w' ⟨A', n', cap', rfl, hs', hst⟩; have HS' := Lib.hid hs'; have HST := Lib.hid hst; clear hs' hst))
    all_goals rw [HV.out]
    all_goals clear w1 w2 w3 g1 g2
    all_goals go_wp2_with (go_at_call 161; refine (demand_ok _).mono ?_; rintro e w' ⟨rfl, rfl⟩)
    all_goals go_ret2
    all_goals exact ⟨_, _, _, by rw [HNB.out]; rfl, HS'.out, (Still.refl w).drew.trans HST.out⟩
  · rw [if_neg hok] at h
    cases h

set_option maxHeartbeats 800000 in
theorem cutI_bad_low (A : Option Addr) (n cap k : Nat) (rr : List Int) (w : World) (hs : Sl w A n cap ((k : Int) :: rr)) (hk : k ≤ 8) (h : cutInt ((k : Int) :: rr) = none) :
    Calls Tryz.prog 159 #[.slice A n cap] w (CutBad w) := by
  rw [cutInt_low k rr hk] at h
  have hl := hs.1.1
  simp only [List.length_cons] at hl
  have hnp : 0 < n := by omega
  have hcm := hs.1.2.1
  unfold maxLen at hcm
  obtain ⟨b, off, rfl, hc0⟩ := hs.1.addr 0 hnp
  rw [Nat.add_zero] at hc0
  have hc1 : w.cell? ⟨b, off, none⟩ = some (.int .u8 (k : Int)) := hc0
  clear hc0 hl
  by_cases hok : okD rr k
  · have hv : ¬ val (rr.take k) ≤ 9223372036854775807 := fun hv => by rw [if_pos ⟨hok, hv⟩] at h; cases h
    have hcn : cutNum ((k : Int) :: rr) = some (val (rr.take k), rr.drop k) := by rw [cutNum, Int.toNat_natCast, if_pos hok]
    have HN := Lib.hid (cutN_ok _ n cap _ w hs _ _ hcn)
    generalize val (rr.take k) = v at *
    have hvi : decide ((v : Int) ≤ 9223372036854775807) = false := by simp; omega
    clear hcn hok hs h
    go_enter Tryz.func159, Tryz.ntmps159
    go_wp2_with (go_at_call 161; refine (demand_ok _).mono ?_; rintro e w' ⟨rfl, rfl⟩)
    refine HN.out.mono ?_
    rintro e w1 ⟨a, n1, cap1, rfl, hs1, hst⟩
    have HST := Lib.hid hst
    clear hs1 hst
    go_wp2_with (go_at_call 161; refine (demand_bad _).mono ?_; rintro e w' ⟨rfl, rfl⟩)
    exact ⟨rfl, rfl, HST.out⟩
  · have hcn : cutNum ((k : Int) :: rr) = none := by rw [cutNum, Int.toNat_natCast, if_neg hok]
    have HN := Lib.hid (cutN_bad _ n cap _ w hs hcn)
    clear hcn hok hs h
    go_enter Tryz.func159, Tryz.ntmps159
    go_wp2_with (go_at_call 161; refine (demand_ok _).mono ?_; rintro e w' ⟨rfl, rfl⟩)
    refine HN.out.mono ?_
    rintro e w1 ⟨rfl, hst⟩
    exact ⟨rfl, rfl, hst⟩

set_option maxHeartbeats 800000 in
theorem cutI_bad_mid (A : Option Addr) (n cap : Nat) (c : Int) (rr : List Int) (w : World) (hs : Sl w A n cap (c :: rr)) (h1 : 8 < c) (h2 : c ≤ 16) :
    Calls Tryz.prog 159 #[.slice A n cap] w (CutBad w) := by
  have hl := hs.1.1
  simp only [List.length_cons] at hl
  have hnp : 0 < n := by omega
  have hcm := hs.1.2.1
  unfold maxLen at hcm
  obtain ⟨b, off, rfl, hc0⟩ := hs.1.addr 0 hnp
  rw [Nat.add_zero] at hc0
  have hc1 : w.cell? ⟨b, off, none⟩ = some (.int .u8 c) := hc0
  clear hc0 hl hs
  have g1 : ¬ (c ≤ 8) := by omega
  have g2 : decide ((16 : Int) < c) = false := by simp; omega
  go_enter Tryz.func159, Tryz.ntmps159
  go_wp2_with (first | (go_at_call_of 161 (Value.bool true); refine (demand_ok _).mono ?_; rintro e w' ⟨rfl, rfl⟩) | (go_at_call_of 161 (Value.bool false); refine (demand_bad _).mono ?_; rintro e w' ⟨rfl, rfl⟩))
  exact ⟨rfl, rfl, Still.refl _⟩

set_option maxHeartbeats 800000 in
theorem cutI_bad_nil (A : Option Addr) (cap : Nat) (w : World) : Calls Tryz.prog 159 #[.slice A 0 cap] w (CutBad w) := by
  go_enter Tryz.func159, Tryz.ntmps159
  go_wp2_with (go_at_call 161; refine (demand_bad _).mono ?_; rintro e w' ⟨rfl, rfl⟩)
  exact ⟨rfl, rfl, Still.refl _⟩

set_option maxHeartbeats 800000 in
theorem cutI_bad_high (A : Option Addr) (n cap q : Nat) (rr : List Int) (w : World) (hs : Sl w A n cap (((q : Int) + 16) :: rr)) (hq : 0 < q) (hq2 : q ≤ 239) (h : cutInt (((q : Int) + 16) :: rr) = none) :
    Calls Tryz.prog 159 #[.slice A n cap] w (CutBad w) := by
  rw [cutInt_high q rr hq] at h
  have hl := hs.1.1
  simp only [List.length_cons] at hl
  have hnp : 0 < n := by omega
  have hcm := hs.1.2.1
  unfold maxLen at hcm
  obtain ⟨b, off, rfl, hc0⟩ := hs.1.addr 0 hnp
  rw [Nat.add_zero] at hc0
  have hc1 : w.cell? ⟨b, off, none⟩ = some (.int .u8 ((q : Int) + 16)) := hc0
  have HT := Lib.hid (show Sl w.drew _ _ _ rr from Still.sl (hs.tail 1 (by omega)) (Still.refl w).drew)
  have hsl : ∀ W : World, (Instr.slice 45 (.slice (some ⟨b, off, none⟩) n cap) (some (.int .i64 1)) none none).run Tryz.prog W = .ok (.slice (some (past ⟨b, off, none⟩ cap 1)) (n - 1) (cap - 1)) W := run_tail .i64 ⟨b, off, none⟩ rfl n cap 1 (by omega) hs.2.1
  have HSP := Lib.hid (show (past ⟨b, off, none⟩ cap 1).spot = none by unfold past; split <;> rfl)
  generalize past ⟨b, off, none⟩ cap 1 = a1 at *
  clear hs hc0 hl
  have w1 : IntKind.i64.wrap ((q : Int) + 16) = (q : Int) + 16 := IntWalk.i64_in _ (by omega)
  have w2 : IntKind.i64.wrap ((q : Int) + 16 - 16) = (q : Int) := (IntWalk.i64_in _ (by omega)).trans (by omega)
  have w3 : IntKind.i64.wrap (q : Int) = (q : Int) := IntWalk.i64_in _ (by omega)
  have g1 : ¬ ((q : Int) + 16 ≤ 8) := by omega
  have g2 : (16 : Int) < (q : Int) + 16 := by omega
  by_cases hok : okD rr q
  · have hv : ¬ val (rr.take q) ≤ 9223372036854775808 := fun hv => by rw [if_pos ⟨hok, hv⟩] at h; cases h
    have HOK := Lib.hid hok
    generalize hV : val (rr.take q) = v at *
    have HV := Lib.hid hV
    have hvi : decide ((v : Int) ≤ 9223372036854775808) = false := by simp; omega
    clear hok h hV
    go_enter Tryz.func159, Tryz.ntmps159
    go_wp2_with (go_at_call 161; refine (demand_ok _).mono ?_; rintro e w' ⟨rfl, rfl⟩)
    go_region_with ((go_at_call 172; refine (cutD_ok a1 HSP.out _ _ q rr _ HT.out HOK.out).mono ?_; rintro e w' ⟨A', n', cap', rfl, hs', hst⟩; have HST := Lib.hid hst; clear hs' hst))
    all_goals rw [HV.out]
    all_goals clear w1 w2 w3 g1 g2
    all_goals go_wp2_with (go_at_call 161; refine (demand_bad _).mono ?_; rintro e w' ⟨rfl, rfl⟩)
    all_goals exact ⟨rfl, rfl, (Still.refl w).drew.trans HST.out⟩
  · have HOK := Lib.hid hok
    clear hok h
    go_enter Tryz.func159, Tryz.ntmps159
    go_wp2_with (go_at_call 161; refine (demand_ok _).mono ?_; rintro e w' ⟨rfl, rfl⟩)
    go_region_dies
    all_goals (refine (cutD_bad a1 HSP.out _ _ q rr _ HT.out HOK.out (by omega)).mono ?_; rintro e w' ⟨rfl, hst⟩; exact ⟨rfl, rfl, (Still.refl w).drew.trans hst⟩)

theorem cutI_ok (A : Option Addr) (n cap : Nat) (zs : List Int) (w : World) (hs : Sl w A n cap zs) (x : Int) (r : List Int) (h : cutInt zs = some (x, r)) : Calls Tryz.prog 159 #[.slice A n cap] w (CutOk w (.int .i64 x) r) := by
  cases zs with
  | nil => simp [cutInt] at h
  | cons c rr =>
    have hc := hs.1.2.2.1 c (by simp)
    by_cases h8 : c ≤ 8
    · obtain ⟨k, rfl⟩ : ∃ k : Nat, c = (k : Int) := ⟨c.toNat, by omega⟩
      exact cutI_low A n cap k rr w hs (by omega) x r h
    · by_cases h16 : c ≤ 16
      · rw [cutInt_mid c rr (by omega) h16] at h
        cases h
      · obtain ⟨q, rfl⟩ : ∃ q : Nat, c = (q : Int) + 16 := ⟨(c - 16).toNat, by omega⟩
        exact cutI_high A n cap q rr w hs (by omega) x r h
theorem cutI_bad (A : Option Addr) (n cap : Nat) (zs : List Int) (w : World) (hs : Sl w A n cap zs) (h : cutInt zs = none) : Calls Tryz.prog 159 #[.slice A n cap] w (CutBad w) := by
  cases zs with
  | nil =>
    obtain rfl : n = 0 := by have := hs.1.1; simpa using this.symm
    exact cutI_bad_nil A cap w
  | cons c rr =>
    have hc := hs.1.2.2.1 c (by simp)
    by_cases h8 : c ≤ 8
    · obtain ⟨k, rfl⟩ : ∃ k : Nat, c = (k : Int) := ⟨c.toNat, by omega⟩
      exact cutI_bad_low A n cap k rr w hs (by omega) h
    · by_cases h16 : c ≤ 16
      · exact cutI_bad_mid A n cap c rr w hs (by omega) h16
      · obtain ⟨q, rfl⟩ : ∃ q : Nat, c = (q : Int) + 16 := ⟨(c - 16).toNat, by omega⟩
        exact cutI_bad_high A n cap q rr w hs (by omega) (by omega) h
end Go.Proofs.YtgmpdifggaggdaaGreatDoor.Fld
