/-
  Several texts in one: What the inner functions of package field's reader (demand, cutDigits, cutNumber, cutInt, cutText) answer for whatever bytes they are given: what stands first, cut off, or the panic with ErrForm. Conditions: the slice can be read (Sl). What the inner functions cutNumber, cutInt and cutText of package field's reader answer for whatever bytes they are given: what stands first, cut off, or the panic with ErrForm. Conditions: the slice can be read (Sl). What the inner function cutInt of package field's reader answers for whatever bytes it is given: the whole number that stands first, cut off, or the panic with ErrForm. Conditions: the slice can be read (Sl). What the deferred functions of the reader's methods do: of a method that panics they recover, lay the result's zero and mark the reader; of one that returns they do nothing. Conditions: as each theorem states. The reader in memory (Rdr); what package field's New and bytes.Clone make; what the reader's small methods (unread, Bad, Whole) answer. Conditions: the reader lies in memory as it was made. Inside a method of the reader: its variables in memory (Fr), and what becomes of them. Conditions: as each theorem states. What the reader's method Int answers, and what becomes of the reader. Conditions: the reader lies in memory as it was made (Rdr).
-/
import Derived.Test.YtnppomiggajhnaaGreatDoorJFieldBase
import Derived.Deep.RegionWith
import Derived.Laws.BitsAllLaws
import Derived.Deep.QuietTactic
import Derived.BigQuiet
import Derived.RegionDies
import Derived.Defers
import Derived.Recover
import Derived.Laws.Pointers
import Derived.Lib.LazyBuf
namespace Go.Proofs.YtnppomiggajhnaaGreatDoor.Fld
open Go.RowKit

/-- the memory is as it was -/
def Still (w w' : World) : Prop := w'.heap = w.heap ∧ w'.os = w.os ∧ w'.tape = w.tape ∧ w'.output = w.output
theorem Still.refl (w : World) : Still w w := ⟨rfl, rfl, rfl, rfl⟩
theorem Still.trans {a b c : World} (h : Still a b) (k : Still b c) : Still a c := ⟨k.1.trans h.1, k.2.1.trans h.2.1, k.2.2.1.trans h.2.2.1, k.2.2.2.trans h.2.2.2⟩
theorem Still.drew {a b : World} (h : Still a b) : Still a b.drew := h
theorem Still.drewN {a b : World} (h : Still a b) (n : Nat) : Still a (b.drewN n) := by
  exact h
theorem Still.cell {w w' : World} (h : Still w w') (a : Addr) : w'.cell? a = w.cell? a := by
  unfold World.cell?
  rw [h.1]
theorem Still.sl {w w' : World} {A : Option Addr} {n cap : Nat} {zs : List Int} (hs : Sl w A n cap zs) (h : Still w w') : Sl w' A n cap zs := ⟨hs.1.of_same fun a _ _ => h.cell a, hs.2⟩

/-- the panic that the reader's methods recover from -/
def errP : List PanicEntry := [{ v := .iface 29 (.int .i64 6), recovered := false }]
theorem demand_ok (w : World) : Calls Tryz.prog 236 #[.bool true] w fun e w' => e = .returned (.tuple #[]) ∧ w = w' := by
  go_enter Tryz.func236, Tryz.ntmps236
  go_wp2
  go_end0
  exact ⟨rfl, rfl⟩
theorem demand_bad (w : World) : Calls Tryz.prog 236 #[.bool false] w fun e w' => e = .panicked errP ∧ w = w' := by
  go_enter Tryz.func236, Tryz.ntmps236
  go_wp2
  exact ⟨rfl, rfl, rfl⟩

/-- 's[k:]' -/
theorem run_tail (kd : IntKind) (a : Addr) (ha : a.spot = none) (n cap k : Nat) (hk : k ≤ n) (hn : n ≤ cap) (W : World) :
    (Instr.slice 61 (.slice (some a) n cap) (some (.int kd (k : Int))) none none).run Tryz.prog W = .ok (.slice (some (past a cap k)) (n - k) (cap - k)) W := by
  obtain ⟨b, off, s⟩ := a
  obtain rfl : s = none := ha
  unfold past
  by_cases h : cap = k
  · have : n = k := by omega
    subst this
    subst h
    go_simp
  · have h1 : (0 : Int) ≤ (k : Int) := by omega
    have h2 : (k : Int) ≤ (n : Int) := by omega
    go_simp

/-- a value, and the bytes behind it -/
def CutOk (w : World) (v : Value) (zs : List Int) (e : Ending) (w' : World) : Prop := ∃ a n cap, e = .returned (.tuple #[v, .slice (some a) n cap]) ∧ Sl w' (some a) n cap zs ∧ Still w w'
def CutBad (w : World) (e : Ending) (w' : World) : Prop := e = .panicked errP ∧ Still w w'

theorem or_digit (v : Nat) (c : Int) (hv : v < 72057594037927936) (h0 : 0 ≤ c) (h1 : c ≤ 255) : bits .or .u64 ((v : Int) * 256) c = ((v * 256 + c.toNat : Nat) : Int) := by
  rw [u64_or _ _ (by omega) (by omega) h0 (by omega)]
  congr 1
  have e : ((v : Int) * 256).toNat = v <<< 8 := by rw [Nat.shiftLeft_eq]; omega
  rw [e, ← Nat.shiftLeft_add_eq_or_of_lt (show c.toNat < 2 ^ 8 by omega), Nat.shiftLeft_eq]
theorem val_take (zs : List Int) (j : Nat) (h : j < zs.length) : val (zs.take (j + 1)) = val (zs.take j) * 256 + (zs.getD j 0).toNat := by
  rw [List.take_succ_eq_append_getElem h, val_snoc]
  simp [h]

set_option maxHeartbeats 800000 in
theorem cutD_ok (a : Addr) (ha : a.spot = none) (n cap k : Nat) (zs : List Int) (w : World) (hs : Sl w (some a) n cap zs) (hok : okD zs k) :
    Calls Tryz.prog 247 #[.slice (some a) n cap, .int .i64 (k : Int)] w (CutOk w (.int .u64 (val (zs.take k) : Nat)) (zs.drop k)) := by
  obtain ⟨h8, hkl, hz⟩ := hok
  have hl := hs.1.1
  rw [hl] at hkl
  have hnc := hs.2.1
  have hcm := hs.2.2.1
  have hsl := run_tail .i64 a ha n cap k hkl hnc
  unfold maxLen at hcm
  obtain ⟨b, off, sp⟩ := a
  obtain rfl : sp = none := ha
  have HS := Lib.hid hs
  have HL := Lib.hid hl
  have HZ := Lib.hid hz
  have HSL := Lib.hid hsl
  clear hs hl hz hsl
  have main : (((k : Int) == 0) = true ∨ (((k : Int) == 0) = false ∧ 0 < n ∧ ∃ c0 : Int, w.cell? ⟨b, off, none⟩ = some (.int .u8 c0) ∧ (c0 != 0) = true)) := by
    by_cases hk0 : k = 0
    · left; simp; omega
    · right
      refine ⟨by simp; omega, by omega, ?_⟩
      obtain ⟨b', off', he, hc0⟩ := HS.out.1.addr 0 (by omega)
      injection he with he
      injection he with e1 e2
      subst e1 e2
      refine ⟨_, hc0, ?_⟩
      rcases HZ.out with h | h
      · omega
      · simpa using h
  have j1 : (k : Int) ≤ 8 := by omega
  have j2 : (k : Int) ≤ (n : Int) := by omega
  have j3 : (k : Int) ≤ (cap : Int) := by omega
  have j0 : (0 : Int) ≤ (k : Int) := by omega
  rcases main with hk0 | ⟨hk0, hnp, c0, hc0, hne⟩
  all_goals
    go_enter Tryz.func247, Tryz.ntmps247
    go_wp2_with (go_at_call 236; refine (demand_ok _).mono ?_; rintro e w' ⟨rfl, rfl⟩)
    first
      | clear hk0 hc0 hne
      | clear hk0
    go_loop [6, 31] (fun v i => ∃ j : Nat, j ≤ k ∧ i = .int .i64 j ∧ v = .int .u64 (val (zs.take j) : Nat)) (fun _ i => k - (intOf i).toNat)
    case atStart => exact ⟨0, by omega, rfl, rfl⟩
    case round =>
      obtain ⟨j, hj, rfl, rfl⟩ := hrel
      by_cases hlt : j < k
      · obtain ⟨b', off', he, hc⟩ := HS.out.1.addr j (by omega)
        injection he with he
        injection he with e1 e2
        subst e1 e2
        generalize hcg : zs.getD j 0 = c at hc
        have HCG := Lib.hid hcg
        have hcb := getD_byte HS.out.1.2.2.1 j (by rw [HL.out]; omega)
        rw [hcg] at hcb
        clear hcg
        have HV := Lib.hid (val_take zs j (by rw [HL.out]; omega))
        rw [HCG.out] at HV
        have hvl : val (zs.take j) < 72057594037927936 := by
          have h1 := val_lt j (zs.take j) (by rw [List.length_take, HL.out]; omega) (bytes_take HS.out.1.2.2.1 j)
          have h2 : (256 : Nat) ^ j ≤ 256 ^ 7 := Nat.pow_le_pow_right (by omega) (by omega)
          have h3 : (256 : Nat) ^ 7 = 72057594037927936 := by decide
          omega
        have HOR := Lib.hid (or_digit _ c hvl hcb.1 hcb.2)
        rw [← HV.out] at HOR
        go_wp2
        go_round
        case rel => exact ⟨j + 1, by omega, by go_num, congrArg (Value.int .u64) HOR.out⟩
        case measure => simp [intOf]; omega
      · obtain rfl : j = k := by omega
        have hsl := HSL.out
        have HT := Lib.hid (HS.out.tail j hkl)
        go_wp2_with fail
        go_quiet (fail)
        go_wp2
        go_ret2
        exact ⟨_, _, _, rfl, Still.sl HT.out (Still.drewN (Still.refl _) _), Still.drewN (Still.refl _) _⟩

set_option maxHeartbeats 800000 in
theorem cutD_bad (a : Addr) (ha : a.spot = none) (n cap k : Nat) (zs : List Int) (w : World) (hs : Sl w (some a) n cap zs) (hok : ¬ okD zs k) (hk : k ≤ 255) :
    Calls Tryz.prog 247 #[.slice (some a) n cap, .int .i64 (k : Int)] w (CutBad w) := by
  have hl := hs.1.1
  have hcm := hs.1.2.1
  unfold maxLen at hcm
  obtain ⟨b, off, sp⟩ := a
  obtain rfl : sp = none := ha
  by_cases h8 : 8 < k
  · clear hs hok hl
    have d1 : decide ((k : Int) ≤ 8) = false := by simp; omega
    go_enter Tryz.func247, Tryz.ntmps247
    go_wp2_with (go_at_call 236; refine (demand_bad _).mono ?_; rintro e w' ⟨rfl, rfl⟩)
    exact ⟨rfl, rfl, Still.refl _⟩
  · by_cases hn : n < k
    · clear hs hok hl
      have d1 : (k : Int) ≤ 8 := by omega
      have d2 : decide ((k : Int) ≤ (n : Int)) = false := by simp; omega
      have d3 : decide (k ≤ n) = false := by simp; omega
      go_enter Tryz.func247, Tryz.ntmps247
      go_wp2_with (go_at_call 236; refine (demand_bad _).mono ?_; rintro e w' ⟨rfl, rfl⟩)
      exact ⟨rfl, rfl, Still.refl _⟩
    · have hk0 : ¬ k = 0 := fun h => hok ⟨by omega, by omega, .inl h⟩
      have hz : zs.getD 0 0 = 0 := by
        by_cases h : zs.getD 0 0 = 0
        · exact h
        · exact absurd ⟨by omega, by omega, .inr h⟩ hok
      obtain ⟨b', off', he, hc0⟩ := hs.1.addr 0 (by omega)
      injection he with he
      injection he with e1 e2
      subst e1 e2
      rw [hz, Nat.add_zero] at hc0
      clear hs hok hl hz
      have hnp : 0 < n := by omega
      have hk1 : ((k : Int) == 0) = false := by simp; omega
      have j1 : (k : Int) ≤ 8 := by omega
      have j2 : (k : Int) ≤ (n : Int) := by omega
      go_enter Tryz.func247, Tryz.ntmps247
      go_wp2_with (first | (go_at_call_of 236 (Value.bool true); refine (demand_ok _).mono ?_; rintro e w' ⟨rfl, rfl⟩) | (go_at_call_of 236 (Value.bool false); refine (demand_bad _).mono ?_; rintro e w' ⟨rfl, rfl⟩))
      exact ⟨rfl, rfl, Still.refl _⟩

set_option maxHeartbeats 800000 in
theorem cutN_ok (A : Option Addr) (n cap : Nat) (zs : List Int) (w : World) (hs : Sl w A n cap zs) (v : Nat) (r : List Int) (h : cutNum zs = some (v, r)) :
    Calls Tryz.prog 246 #[.slice A n cap] w (CutOk w (.int .u64 (v : Int)) r) := by
  cases zs with
  | nil => simp [cutNum] at h
  | cons c rr =>
    have hc := hs.1.2.2.1 c (by simp)
    obtain ⟨k, rfl⟩ : ∃ k : Nat, c = (k : Int) := ⟨c.toNat, by omega⟩
    rw [cutNum, Int.toNat_natCast] at h
    by_cases hok : okD rr k
    · rw [if_pos hok] at h
      simp only [Option.some.injEq, Prod.mk.injEq] at h
      obtain ⟨rfl, rfl⟩ := h
      have hl := hs.1.1
      simp only [List.length_cons] at hl
      have hnp : 0 < n := by omega
      have hcm := hs.1.2.1
      unfold maxLen at hcm
      obtain ⟨b, off, rfl, hc0⟩ := hs.1.addr 0 hnp
      rw [Nat.add_zero] at hc0
      have hc1 : w.cell? ⟨b, off, none⟩ = some (.int .u8 (k : Int)) := hc0
      have HT := Lib.hid (show Sl w.drew _ _ _ rr from Still.sl (hs.tail 1 (by omega)) (Still.refl w).drew)
      have hsl : ∀ W : World, (Instr.slice 61 (.slice (some ⟨b, off, none⟩) n cap) (some (.int .i64 1)) none none).run Tryz.prog W = .ok (.slice (some (past ⟨b, off, none⟩ cap 1)) (n - 1) (cap - 1)) W := run_tail .i64 ⟨b, off, none⟩ rfl n cap 1 (by omega) hs.2.1
      have HSP := Lib.hid (show (past ⟨b, off, none⟩ cap 1).spot = none by unfold past; split <;> rfl)
      generalize past ⟨b, off, none⟩ cap 1 = a1 at *
      have HOK := Lib.hid hok
      have hwk : IntKind.i64.wrap (k : Int) = (k : Int) := IntWalk.i64_in _ (by omega)
      clear hs hc0 hl hok hc
      go_enter Tryz.func246, Tryz.ntmps246
      go_wp2_with (go_at_call 236; refine (demand_ok _).mono ?_; rintro e w' ⟨rfl, rfl⟩)
      go_region_with ((go_at_call 247; refine (cutD_ok a1 HSP.out _ _ k rr _ HT.out HOK.out).mono ?_; rintro e w' ⟨A', n', cap', rfl, hs', hst⟩; have HS' := Lib.hid hs'; have HST := Lib.hid hst; clear hs' hst))
      all_goals go_wp2
      all_goals go_ret2
      all_goals exact ⟨_, _, _, rfl, HS'.out, (Still.refl w).drew.trans HST.out⟩
    · rw [if_neg hok] at h
      cases h

end Go.Proofs.YtnppomiggajhnaaGreatDoor.Fld

namespace Go.Proofs.YtnppomiggajhnaaGreatDoor.Fld
open Go.RowKit

set_option maxHeartbeats 800000 in
theorem cutN_bad (A : Option Addr) (n cap : Nat) (zs : List Int) (w : World) (hs : Sl w A n cap zs) (h : cutNum zs = none) :
    Calls Tryz.prog 246 #[.slice A n cap] w (CutBad w) := by
  cases zs with
  | nil =>
    obtain rfl : n = 0 := by have := hs.1.1; simpa using this.symm
    clear hs h
    go_enter Tryz.func246, Tryz.ntmps246
    go_wp2_with (go_at_call 236; refine (demand_bad _).mono ?_; rintro e w' ⟨rfl, rfl⟩)
    exact ⟨rfl, rfl, Still.refl _⟩
  | cons c rr =>
    have hc := hs.1.2.2.1 c (by simp)
    obtain ⟨k, rfl⟩ : ∃ k : Nat, c = (k : Int) := ⟨c.toNat, by omega⟩
    rw [cutNum, Int.toNat_natCast] at h
    by_cases hok : okD rr k
    · rw [if_pos hok] at h
      cases h
    · clear h
      have hl := hs.1.1
      simp only [List.length_cons] at hl
      have hnp : 0 < n := by omega
      have hcm := hs.1.2.1
      unfold maxLen at hcm
      obtain ⟨b, off, rfl, hc0⟩ := hs.1.addr 0 hnp
      rw [Nat.add_zero] at hc0
      have hc1 : w.cell? ⟨b, off, none⟩ = some (.int .u8 (k : Int)) := hc0
      have HT := Lib.hid (show Sl w.drew _ _ _ rr from Still.sl (hs.tail 1 (by omega)) (Still.refl w).drew)
      have hsl : ∀ W : World, (Instr.slice 61 (.slice (some ⟨b, off, none⟩) n cap) (some (.int .i64 1)) none none).run Tryz.prog W = .ok (.slice (some (past ⟨b, off, none⟩ cap 1)) (n - 1) (cap - 1)) W := run_tail .i64 ⟨b, off, none⟩ rfl n cap 1 (by omega) hs.2.1
      have HSP := Lib.hid (show (past ⟨b, off, none⟩ cap 1).spot = none by unfold past; split <;> rfl)
      generalize past ⟨b, off, none⟩ cap 1 = a1 at *
      have HOK := Lib.hid hok
      have hk255 : k ≤ 255 := by omega
      have hwk : IntKind.i64.wrap (k : Int) = (k : Int) := IntWalk.i64_in _ (by omega)
      clear hs hc0 hl hok hc
      go_enter Tryz.func246, Tryz.ntmps246
      go_wp2_with (go_at_call 236; refine (demand_ok _).mono ?_; rintro e w' ⟨rfl, rfl⟩)
      go_region_dies
      all_goals (refine (cutD_bad a1 HSP.out _ _ k rr _ HT.out HOK.out hk255).mono ?_; rintro e w' ⟨rfl, hst⟩; exact ⟨rfl, rfl, (Still.refl w).drew.trans hst⟩)

theorem Sl.cut {w : World} {A : Option Addr} {n cap : Nat} {xs : List Int} (h : Sl w A n cap xs) (N : Nat) (hN : N ≤ n) : Sl w A N cap (xs.take N) := ⟨h.1.cut N hN, by have := h.2.1; omega, h.2.2⟩
/-- two pieces: a text, and the bytes behind it -/
def CutTxt (w : World) (zs rs : List Int) (e : Ending) (w' : World) : Prop := ∃ a n cap a2 n2 cap2, e = .returned (.tuple #[.slice (some a) n cap, .slice (some a2) n2 cap2]) ∧ Sl w' (some a) n cap zs ∧ Sl w' (some a2) n2 cap2 rs ∧ Still w w'

set_option maxHeartbeats 800000 in
theorem cutT_ok (A : Option Addr) (n cap : Nat) (zs : List Int) (w : World) (hs : Sl w A n cap zs) (t r : List Int) (h : cutText zs = some (t, r)) :
    Calls Tryz.prog 238 #[.slice A n cap] w (CutTxt w t r) := by
  unfold cutText at h
  cases hc : cutNum zs with
  | none => rw [hc] at h; cases h
  | some q =>
    obtain ⟨m, rr⟩ := q
    rw [hc] at h
    simp only at h
    by_cases hm : m ≤ rr.length
    · rw [if_pos hm] at h
      simp only [Option.some.injEq, Prod.mk.injEq] at h
      obtain ⟨rfl, rfl⟩ := h
      have HN := Lib.hid (cutN_ok A n cap zs w hs m rr hc)
      clear hc hs
      go_enter Tryz.func238, Tryz.ntmps238
      go_wp2_with fail
      refine HN.out.mono ?_
      rintro e w1 ⟨a, n1, cap1, rfl, hs1, hst⟩
      have HS := Lib.hid hs1
      have HST := Lib.hid hst
      have hl1 := hs1.1.1
      rw [hl1] at hm
      have hcm := hs1.2.2.1
      have hnc := hs1.2.1
      unfold maxLen at hcm
      have hsp := hs1.2.2.2.2 a rfl
      have hsl := run_tail .u64 a hsp n1 cap1 m hm hnc
      obtain ⟨b, off, sp⟩ := a
      obtain rfl : sp = none := hsp
      have HT := Lib.hid (hs1.tail m hm)
      have HC := Lib.hid (hs1.cut m hm)
      clear hs1 hst hl1
      have j1 : (m : Int) ≤ (n1 : Int) := by omega
      have j2 : (m : Int) ≤ (cap1 : Int) := by omega
      have j0 : (0 : Int) ≤ (m : Int) := by omega
      have HSL := Lib.hid hsl
      clear hsl
      go_wp2_with (go_at_call 236; refine (demand_ok _).mono ?_; rintro e w' ⟨rfl, rfl⟩)
      have hsl := HSL.out
      go_quiet (fail)
      go_wp2
      go_ret2
      exact ⟨_, _, _, _, _, _, rfl, Still.sl HC.out (Still.drewN (Still.refl _) _), Still.sl HT.out (Still.drewN (Still.refl _) _), HST.out.trans (Still.drewN (Still.refl _) _)⟩
    · rw [if_neg hm] at h
      cases h
set_option maxHeartbeats 800000 in
theorem cutT_bad (A : Option Addr) (n cap : Nat) (zs : List Int) (w : World) (hs : Sl w A n cap zs) (h : cutText zs = none) :
    Calls Tryz.prog 238 #[.slice A n cap] w (CutBad w) := by
  unfold cutText at h
  cases hc : cutNum zs with
  | none =>
    have HN := Lib.hid (cutN_bad A n cap zs w hs hc)
    clear hc hs h
    go_enter Tryz.func238, Tryz.ntmps238
    go_wp2_with fail
    refine HN.out.mono ?_
    rintro e w1 ⟨rfl, hst⟩
    exact ⟨rfl, rfl, hst⟩
  | some q =>
    obtain ⟨m, rr⟩ := q
    rw [hc] at h
    simp only at h
    by_cases hm : m ≤ rr.length
    · rw [if_pos hm] at h
      cases h
    · clear h
      have HN := Lib.hid (cutN_ok A n cap zs w hs m rr hc)
      clear hc hs
      go_enter Tryz.func238, Tryz.ntmps238
      go_wp2_with fail
      refine HN.out.mono ?_
      rintro e w1 ⟨a, n1, cap1, rfl, hs1, hst⟩
      have HST := Lib.hid hst
      have hl1 := hs1.1.1
      rw [hl1] at hm
      have hcm := hs1.1.2.1
      unfold maxLen at hcm
      have d2 : decide ((m : Int) ≤ (n1 : Int)) = false := by simp; omega
      have d3 : decide (m ≤ n1) = false := by simp; omega
      clear hs1 hst hl1
      go_wp2_with (go_at_call 236; refine (demand_bad _).mono ?_; rintro e w' ⟨rfl, rfl⟩)
      exact ⟨rfl, rfl, HST.out⟩
end Go.Proofs.YtnppomiggajhnaaGreatDoor.Fld

namespace Go.Proofs.YtnppomiggajhnaaGreatDoor.Fld
open Go.RowKit

theorem neg_back (v : Nat) (h : v ≤ 9223372036854775808) : wrap64 (IntKind.u64.wrap (-(v : Int))) = -(v : Int) := by
  rw [IntKind.wrap_u64]
  unfold wrap64
  omega
theorem cutInt_low (k : Nat) (rr : List Int) (hk : k ≤ 8) : cutInt ((k : Int) :: rr) = if okD rr k ∧ val (rr.take k) ≤ 9223372036854775807 then some ((val (rr.take k) : Int), rr.drop k) else none := by
  rw [cutInt, if_pos (by omega), Int.toNat_natCast]
theorem cutInt_high (q : Nat) (rr : List Int) (hq : 0 < q) : cutInt (((q : Int) + 16) :: rr) = if okD rr q ∧ val (rr.take q) ≤ 9223372036854775808 then some (-(val (rr.take q) : Int), rr.drop q) else none := by
  rw [cutInt, if_neg (by omega), show ((q : Int) + 16 - 16).toNat = q by omega]
  by_cases h : okD rr q ∧ val (rr.take q) ≤ 9223372036854775808
  · rw [if_pos h, if_pos ⟨by omega, h⟩]
  · rw [if_neg h, if_neg (fun h' => h h'.2)]
theorem cutInt_mid (c : Int) (rr : List Int) (h1 : 8 < c) (h2 : c ≤ 16) : cutInt (c :: rr) = none := by
  rw [cutInt, if_neg (by omega), if_neg (fun h => by omega)]

set_option maxHeartbeats 800000 in
theorem cutI_low (A : Option Addr) (n cap k : Nat) (rr : List Int) (w : World) (hs : Sl w A n cap ((k : Int) :: rr)) (hk : k ≤ 8) (x : Int) (r : List Int) (h : cutInt ((k : Int) :: rr) = some (x, r)) :
    Calls Tryz.prog 234 #[.slice A n cap] w (CutOk w (.int .i64 x) r) := by
  rw [cutInt_low k rr hk] at h
  by_cases hok : okD rr k ∧ val (rr.take k) ≤ 9223372036854775807
  · rw [if_pos hok] at h
    simp only [Option.some.injEq, Prod.mk.injEq] at h
    obtain ⟨rfl, rfl⟩ := h
    have hcn : cutNum ((k : Int) :: rr) = some (val (rr.take k), rr.drop k) := by rw [cutNum, Int.toNat_natCast, if_pos hok.1]
    have HN := Lib.hid (cutN_ok A n cap _ w hs _ _ hcn)
    have hv := hok.2
    generalize val (rr.take k) = v at *
    have hvi : (v : Int) ≤ 9223372036854775807 := by omega
    have hl := hs.1.1
    simp only [List.length_cons] at hl
    have hnp : 0 < n := by omega
    have hcm := hs.1.2.1
    unfold maxLen at hcm
    obtain ⟨b, off, rfl, hc0⟩ := hs.1.addr 0 hnp
    rw [Nat.add_zero] at hc0
    have hc1 : w.cell? ⟨b, off, none⟩ = some (.int .u8 (k : Int)) := hc0
    clear hcn hok hs hc0 hl
    go_enter Tryz.func234, Tryz.ntmps234
    go_wp2_with (go_at_call 236; refine (demand_ok _).mono ?_; rintro e w' ⟨rfl, rfl⟩)
    refine HN.out.mono ?_
    rintro e w1 ⟨a, n1, cap1, rfl, hs1, hst⟩
    have HS := Lib.hid hs1
    have HST := Lib.hid hst
    clear hs1 hst
    go_wp2_with (go_at_call 236; refine (demand_ok _).mono ?_; rintro e w' ⟨rfl, rfl⟩)
    go_ret2
    exact ⟨_, _, _, rfl, HS.out, HST.out⟩
  · rw [if_neg hok] at h
    cases h

set_option maxHeartbeats 800000 in
theorem cutI_high (A : Option Addr) (n cap q : Nat) (rr : List Int) (w : World) (hs : Sl w A n cap (((q : Int) + 16) :: rr)) (hq : 0 < q) (x : Int) (r : List Int) (h : cutInt (((q : Int) + 16) :: rr) = some (x, r)) :
    Calls Tryz.prog 234 #[.slice A n cap] w (CutOk w (.int .i64 x) r) := by
  rw [cutInt_high q rr hq] at h
  by_cases hok : okD rr q ∧ val (rr.take q) ≤ 9223372036854775808
  · rw [if_pos hok] at h
    simp only [Option.some.injEq, Prod.mk.injEq] at h
    obtain ⟨rfl, rfl⟩ := h
    have hq8 := hok.1.1
    have HOK := Lib.hid hok.1
    have hv := hok.2
    have HNB := Lib.hid (neg_back _ hv)
    generalize hV : val (rr.take q) = v at *
    have HV := Lib.hid hV
    clear hV
    have hvi : (v : Int) ≤ 9223372036854775808 := by omega
    have hl := hs.1.1
    simp only [List.length_cons] at hl
    have hnp : 0 < n := by omega
    have hcm := hs.1.2.1
    unfold maxLen at hcm
    obtain ⟨b, off, rfl, hc0⟩ := hs.1.addr 0 hnp
    rw [Nat.add_zero] at hc0
    have hc1 : w.cell? ⟨b, off, none⟩ = some (.int .u8 ((q : Int) + 16)) := hc0
    have HT := Lib.hid (show Sl w.drew _ _ _ rr from Still.sl (hs.tail 1 (by omega)) (Still.refl w).drew)
    have hsl : ∀ W : World, (Instr.slice 61 (.slice (some ⟨b, off, none⟩) n cap) (some (.int .i64 1)) none none).run Tryz.prog W = .ok (.slice (some (past ⟨b, off, none⟩ cap 1)) (n - 1) (cap - 1)) W := run_tail .i64 ⟨b, off, none⟩ rfl n cap 1 (by omega) hs.2.1
    have HSP := Lib.hid (show (past ⟨b, off, none⟩ cap 1).spot = none by unfold past; split <;> rfl)
    generalize past ⟨b, off, none⟩ cap 1 = a1 at *
    clear hs hc0 hl hok
    have w1 : IntKind.i64.wrap ((q : Int) + 16) = (q : Int) + 16 := IntWalk.i64_in _ (by omega)
    have w2 : IntKind.i64.wrap ((q : Int) + 16 - 16) = (q : Int) := (IntWalk.i64_in _ (by omega)).trans (by omega)
    have w3 : IntKind.i64.wrap (q : Int) = (q : Int) := IntWalk.i64_in _ (by omega)
    have g1 : ¬ ((q : Int) + 16 ≤ 8) := by omega
    have g2 : (16 : Int) < (q : Int) + 16 := by omega
    go_enter Tryz.func234, Tryz.ntmps234
    go_wp2_with (go_at_call 236; refine (demand_ok _).mono ?_; rintro e w' ⟨rfl, rfl⟩)
    go_region_with ((go_at_call 247; refine (cutD_ok a1 HSP.out _ _ q rr _ HT.out HOK.out).mono ?_; rintro e w' ⟨A', n', cap', rfl, hs', hst⟩; have HS' := Lib.hid hs'; have HST := Lib.hid hst; clear hs' hst))
    all_goals rw [HV.out]
    all_goals clear w1 w2 w3 g1 g2
    all_goals go_wp2_with (go_at_call 236; refine (demand_ok _).mono ?_; rintro e w' ⟨rfl, rfl⟩)
    all_goals go_ret2
    all_goals exact ⟨_, _, _, by rw [HNB.out]; rfl, HS'.out, (Still.refl w).drew.trans HST.out⟩
  · rw [if_neg hok] at h
    cases h

set_option maxHeartbeats 800000 in
theorem cutI_bad_low (A : Option Addr) (n cap k : Nat) (rr : List Int) (w : World) (hs : Sl w A n cap ((k : Int) :: rr)) (hk : k ≤ 8) (h : cutInt ((k : Int) :: rr) = none) :
    Calls Tryz.prog 234 #[.slice A n cap] w (CutBad w) := by
  rw [cutInt_low k rr hk] at h
  have hl := hs.1.1
  simp only [List.length_cons] at hl
  have hnp : 0 < n := by omega
  have hcm := hs.1.2.1
  unfold maxLen at hcm
  obtain ⟨b, off, rfl, hc0⟩ := hs.1.addr 0 hnp
  rw [Nat.add_zero] at hc0
  have hc1 : w.cell? ⟨b, off, none⟩ = some (.int .u8 (k : Int)) := hc0
  clear hc0 hl
  by_cases hok : okD rr k
  · have hv : ¬ val (rr.take k) ≤ 9223372036854775807 := fun hv => by rw [if_pos ⟨hok, hv⟩] at h; cases h
    have hcn : cutNum ((k : Int) :: rr) = some (val (rr.take k), rr.drop k) := by rw [cutNum, Int.toNat_natCast, if_pos hok]
    have HN := Lib.hid (cutN_ok _ n cap _ w hs _ _ hcn)
    generalize val (rr.take k) = v at *
    have hvi : decide ((v : Int) ≤ 9223372036854775807) = false := by simp; omega
    clear hcn hok hs h
    go_enter Tryz.func234, Tryz.ntmps234
    go_wp2_with (go_at_call 236; refine (demand_ok _).mono ?_; rintro e w' ⟨rfl, rfl⟩)
    refine HN.out.mono ?_
    rintro e w1 ⟨a, n1, cap1, rfl, hs1, hst⟩
    have HST := Lib.hid hst
    clear hs1 hst
    go_wp2_with (go_at_call 236; refine (demand_bad _).mono ?_; rintro e w' ⟨rfl, rfl⟩)
    exact ⟨rfl, rfl, HST.out⟩
  · have hcn : cutNum ((k : Int) :: rr) = none := by rw [cutNum, Int.toNat_natCast, if_neg hok]
    have HN := Lib.hid (cutN_bad _ n cap _ w hs hcn)
    clear hcn hok hs h
    go_enter Tryz.func234, Tryz.ntmps234
    go_wp2_with (go_at_call 236; refine (demand_ok _).mono ?_; rintro e w' ⟨rfl, rfl⟩)
    refine HN.out.mono ?_
    rintro e w1 ⟨rfl, hst⟩
    exact ⟨rfl, rfl, hst⟩

set_option maxHeartbeats 800000 in
theorem cutI_bad_mid (A : Option Addr) (n cap : Nat) (c : Int) (rr : List Int) (w : World) (hs : Sl w A n cap (c :: rr)) (h1 : 8 < c) (h2 : c ≤ 16) :
    Calls Tryz.prog 234 #[.slice A n cap] w (CutBad w) := by
  have hl := hs.1.1
  simp only [List.length_cons] at hl
  have hnp : 0 < n := by omega
  have hcm := hs.1.2.1
  unfold maxLen at hcm
  obtain ⟨b, off, rfl, hc0⟩ := hs.1.addr 0 hnp
  rw [Nat.add_zero] at hc0
  have hc1 : w.cell? ⟨b, off, none⟩ = some (.int .u8 c) := hc0
  clear hc0 hl hs
  have g1 : ¬ (c ≤ 8) := by omega
  have g2 : decide ((16 : Int) < c) = false := by simp; omega
  go_enter Tryz.func234, Tryz.ntmps234
  go_wp2_with (first | (go_at_call_of 236 (Value.bool true); refine (demand_ok _).mono ?_; rintro e w' ⟨rfl, rfl⟩) | (go_at_call_of 236 (Value.bool false); refine (demand_bad _).mono ?_; rintro e w' ⟨rfl, rfl⟩))
  exact ⟨rfl, rfl, Still.refl _⟩

set_option maxHeartbeats 800000 in
theorem cutI_bad_nil (A : Option Addr) (cap : Nat) (w : World) : Calls Tryz.prog 234 #[.slice A 0 cap] w (CutBad w) := by
  go_enter Tryz.func234, Tryz.ntmps234
  go_wp2_with (go_at_call 236; refine (demand_bad _).mono ?_; rintro e w' ⟨rfl, rfl⟩)
  exact ⟨rfl, rfl, Still.refl _⟩

set_option maxHeartbeats 800000 in
theorem cutI_bad_high (A : Option Addr) (n cap q : Nat) (rr : List Int) (w : World) (hs : Sl w A n cap (((q : Int) + 16) :: rr)) (hq : 0 < q) (hq2 : q ≤ 239) (h : cutInt (((q : Int) + 16) :: rr) = none) :
    Calls Tryz.prog 234 #[.slice A n cap] w (CutBad w) := by
  rw [cutInt_high q rr hq] at h
  have hl := hs.1.1
  simp only [List.length_cons] at hl
  have hnp : 0 < n := by omega
  have hcm := hs.1.2.1
  unfold maxLen at hcm
  obtain ⟨b, off, rfl, hc0⟩ := hs.1.addr 0 hnp
  rw [Nat.add_zero] at hc0
  have hc1 : w.cell? ⟨b, off, none⟩ = some (.int .u8 ((q : Int) + 16)) := hc0
  have HT := Lib.hid (show Sl w.drew _ _ _ rr from Still.sl (hs.tail 1 (by omega)) (Still.refl w).drew)
  have hsl : ∀ W : World, (Instr.slice 61 (.slice (some ⟨b, off, none⟩) n cap) (some (.int .i64 1)) none none).run Tryz.prog W = .ok (.slice (some (past ⟨b, off, none⟩ cap 1)) (n - 1) (cap - 1)) W := run_tail .i64 ⟨b, off, none⟩ rfl n cap 1 (by omega) hs.2.1
  have HSP := Lib.hid (show (past ⟨b, off, none⟩ cap 1).spot = none by unfold past; split <;> rfl)
  generalize past ⟨b, off, none⟩ cap 1 = a1 at *
  clear hs hc0 hl
  have w1 : IntKind.i64.wrap ((q : Int) + 16) = (q : Int) + 16 := IntWalk.i64_in _ (by omega)
  have w2 : IntKind.i64.wrap ((q : Int) + 16 - 16) = (q : Int) := (IntWalk.i64_in _ (by omega)).trans (by omega)
  have w3 : IntKind.i64.wrap (q : Int) = (q : Int) := IntWalk.i64_in _ (by omega)
  have g1 : ¬ ((q : Int) + 16 ≤ 8) := by omega
  have g2 : (16 : Int) < (q : Int) + 16 := by omega
  by_cases hok : okD rr q
  · have hv : ¬ val (rr.take q) ≤ 9223372036854775808 := fun hv => by rw [if_pos ⟨hok, hv⟩] at h; cases h
    have HOK := Lib.hid hok
    generalize hV : val (rr.take q) = v at *
    have HV := Lib.hid hV
    have hvi : decide ((v : Int) ≤ 9223372036854775808) = false := by simp; omega
    clear hok h hV
    go_enter Tryz.func234, Tryz.ntmps234
    go_wp2_with (go_at_call 236; refine (demand_ok _).mono ?_; rintro e w' ⟨rfl, rfl⟩)
    go_region_with ((go_at_call 247; refine (cutD_ok a1 HSP.out _ _ q rr _ HT.out HOK.out).mono ?_; rintro e w' ⟨A', n', cap', rfl, hs', hst⟩; have HST := Lib.hid hst; clear hs' hst))
    all_goals rw [HV.out]
    all_goals clear w1 w2 w3 g1 g2
    all_goals go_wp2_with (go_at_call 236; refine (demand_bad _).mono ?_; rintro e w' ⟨rfl, rfl⟩)
    all_goals exact ⟨rfl, rfl, (Still.refl w).drew.trans HST.out⟩
  · have HOK := Lib.hid hok
    clear hok h
    go_enter Tryz.func234, Tryz.ntmps234
    go_wp2_with (go_at_call 236; refine (demand_ok _).mono ?_; rintro e w' ⟨rfl, rfl⟩)
    go_region_dies
    all_goals (refine (cutD_bad a1 HSP.out _ _ q rr _ HT.out HOK.out (by omega)).mono ?_; rintro e w' ⟨rfl, hst⟩; exact ⟨rfl, rfl, (Still.refl w).drew.trans hst⟩)

theorem cutI_ok (A : Option Addr) (n cap : Nat) (zs : List Int) (w : World) (hs : Sl w A n cap zs) (x : Int) (r : List Int) (h : cutInt zs = some (x, r)) : Calls Tryz.prog 234 #[.slice A n cap] w (CutOk w (.int .i64 x) r) := by
  cases zs with
  | nil => simp [cutInt] at h
  | cons c rr =>
    have hc := hs.1.2.2.1 c (by simp)
    by_cases h8 : c ≤ 8
    · obtain ⟨k, rfl⟩ : ∃ k : Nat, c = (k : Int) := ⟨c.toNat, by omega⟩
      exact cutI_low A n cap k rr w hs (by omega) x r h
    · by_cases h16 : c ≤ 16
      · rw [cutInt_mid c rr (by omega) h16] at h
        cases h
      · obtain ⟨q, rfl⟩ : ∃ q : Nat, c = (q : Int) + 16 := ⟨(c - 16).toNat, by omega⟩
        exact cutI_high A n cap q rr w hs (by omega) x r h
theorem cutI_bad (A : Option Addr) (n cap : Nat) (zs : List Int) (w : World) (hs : Sl w A n cap zs) (h : cutInt zs = none) : Calls Tryz.prog 234 #[.slice A n cap] w (CutBad w) := by
  cases zs with
  | nil =>
    obtain rfl : n = 0 := by have := hs.1.1; simpa using this.symm
    exact cutI_bad_nil A cap w
  | cons c rr =>
    have hc := hs.1.2.2.1 c (by simp)
    by_cases h8 : c ≤ 8
    · obtain ⟨k, rfl⟩ : ∃ k : Nat, c = (k : Int) := ⟨c.toNat, by omega⟩
      exact cutI_bad_low A n cap k rr w hs (by omega) h
    · by_cases h16 : c ≤ 16
      · exact cutI_bad_mid A n cap c rr w hs (by omega) h16
      · obtain ⟨q, rfl⟩ : ∃ q : Nat, c = (q : Int) + 16 := ⟨(c - 16).toNat, by omega⟩
        exact cutI_bad_high A n cap q rr w hs (by omega) (by omega) h
end Go.Proofs.YtnppomiggajhnaaGreatDoor.Fld

namespace Go.Proofs.YtnppomiggajhnaaGreatDoor.Fld
open Go.RowKit

set_option maxHeartbeats 800000 in
theorem catchI_panic (p q : Addr) (g : Nat) (x : Value) (bad : Bool) (w : World) (hp : w.cell? p = some x) (hpz : w.frozen? p = false) (hq : w.cell? q = some (.pointer (some ⟨g, 0, none⟩)))
    (hg : w.cell? ⟨g, 1, none⟩ = some (.bool bad)) (hgz : w.frozen? ⟨g, 1, none⟩ = false) (hpg : p.block ≠ g) (older : List PanicEntry) (u : TypeId) (pv : Value) :
    CallsD Tryz.prog 233 #[.pointer (some p), .pointer (some q)] (.panicking ({ v := .iface u pv, recovered := false } :: older)) w fun e u' w' =>
      e = .returned (.tuple #[]) ∧ u' = .panicking ({ v := .iface u pv, recovered := true } :: older) ∧ w' = (w.setCell p (.int .i64 0)).setCell ⟨g, 1, none⟩ (.bool true) := by
  have hg1 : (w.setCell p (.int .i64 0)).cell? ⟨g, 1, none⟩ = some (.bool bad) := (World.cell?_of_block (w := w) (Below.heap_setCell w p _ g (Ne.symm hpg))).trans hg
  refine callsD_of_wpS Tryz.func233 rfl fun c₀ cs hu => ?_
  apply wpS_seq
  apply wpS_region
  simp [wpOpsS, go_sem, recoverD, hu, Tryz.ntmps233, Exit.thenS]
  refine wpS_cond (t := true) (by simp [Act.eval, Array.replicate]) ?_
  simp only [if_true]
  apply wpS_region
  simp [wpOpsS, go_sem, hp, hpz, hq, hg1, hgz, bodyPostS, results, Tryz.results233]
theorem catchI_idle (p q : Addr) (w : World) :
    CallsD Tryz.prog 233 #[.pointer (some p), .pointer (some q)] .returning w fun e u' w' => e = .returned (.tuple #[]) ∧ u' = .returning ∧ w' = w := by
  refine callsD_of_wpS Tryz.func233 rfl fun c₀ cs hu => ?_
  apply wpS_seq
  apply wpS_region
  simp [wpOpsS, go_sem, recoverD, hu, Tryz.ntmps233, Exit.thenS]
  refine wpS_cond (t := false) (by simp [Act.eval, Array.replicate]) ?_
  simp only [Bool.false_eq_true, if_false]
  refine wpS_of_wp (wp_skip ?_)
  cases c₀
  simp_all [bodyPostS, results, Tryz.results233]

set_option maxHeartbeats 800000 in
theorem catchT_panic (p q : Addr) (g : Nat) (x : Value) (bad : Bool) (w : World) (hp : w.cell? p = some x) (hpz : w.frozen? p = false) (hq : w.cell? q = some (.pointer (some ⟨g, 0, none⟩)))
    (hg : w.cell? ⟨g, 1, none⟩ = some (.bool bad)) (hgz : w.frozen? ⟨g, 1, none⟩ = false) (hpg : p.block ≠ g) (older : List PanicEntry) (u : TypeId) (pv : Value) :
    CallsD Tryz.prog 237 #[.pointer (some p), .pointer (some q)] (.panicking ({ v := .iface u pv, recovered := false } :: older)) w fun e u' w' =>
      e = .returned (.tuple #[]) ∧ u' = .panicking ({ v := .iface u pv, recovered := true } :: older) ∧ w' = (w.setCell p (.slice none 0 0)).setCell ⟨g, 1, none⟩ (.bool true) := by
  have hg1 : (w.setCell p (.slice none 0 0)).cell? ⟨g, 1, none⟩ = some (.bool bad) := (World.cell?_of_block (w := w) (Below.heap_setCell w p _ g (Ne.symm hpg))).trans hg
  refine callsD_of_wpS Tryz.func237 rfl fun c₀ cs hu => ?_
  apply wpS_seq
  apply wpS_region
  simp [wpOpsS, go_sem, recoverD, hu, Tryz.ntmps237, Exit.thenS]
  refine wpS_cond (t := true) (by simp [Act.eval, Array.replicate]) ?_
  simp only [if_true]
  apply wpS_region
  simp [wpOpsS, go_sem, hp, hpz, hq, hg1, hgz, bodyPostS, results, Tryz.results237]
theorem catchT_idle (p q : Addr) (w : World) :
    CallsD Tryz.prog 237 #[.pointer (some p), .pointer (some q)] .returning w fun e u' w' => e = .returned (.tuple #[]) ∧ u' = .returning ∧ w' = w := by
  refine callsD_of_wpS Tryz.func237 rfl fun c₀ cs hu => ?_
  apply wpS_seq
  apply wpS_region
  simp [wpOpsS, go_sem, recoverD, hu, Tryz.ntmps237, Exit.thenS]
  refine wpS_cond (t := false) (by simp [Act.eval, Array.replicate]) ?_
  simp only [Bool.false_eq_true, if_false]
  refine wpS_of_wp (wp_skip ?_)
  cases c₀
  simp_all [bodyPostS, results, Tryz.results237]
end Go.Proofs.YtnppomiggajhnaaGreatDoor.Fld

namespace Go.Proofs.YtnppomiggajhnaaGreatDoor.Fld
open Go.RowKit

/-- of the blocks that were there, block g alone may have changed -/
structure Chg (g : Nat) (w w' : World) : Prop where
  os : w'.os = w.os
  tape : w'.tape = w.tape
  output : w'.output = w.output
  size : w.heap.size ≤ w'.heap.size
  block : ∀ k, k < w.heap.size → k ≠ g → w'.heap[k]? = w.heap[k]?
theorem Chg.refl (g : Nat) (w : World) : Chg g w w := ⟨rfl, rfl, rfl, Nat.le_refl _, fun _ _ _ => rfl⟩
theorem Chg.trans {g : Nat} {a b c : World} (h : Chg g a b) (k : Chg g b c) : Chg g a c :=
  ⟨k.os.trans h.os, k.tape.trans h.tape, k.output.trans h.output, Nat.le_trans h.size k.size, fun i hi hg => (k.block i (Nat.lt_of_lt_of_le hi h.size) hg).trans (h.block i hi hg)⟩
theorem Chg.alloc {g : Nat} {a w : World} (h : Chg g a w) (o : Obj) : Chg g a (w.alloc o) :=
  h.trans ⟨rfl, rfl, rfl, by simp, fun k hk _ => Below.heap_alloc _ _ _ hk⟩
theorem Chg.setCell {g : Nat} {a w : World} (h : Chg g a w) (p : Addr) (hp : p.block = g ∨ a.heap.size ≤ p.block) (u : Value) : Chg g a (w.setCell p u) := by
  refine ⟨h.os, h.tape, h.output, by simpa [World.setCell] using h.size, fun k hk hg => ?_⟩
  rw [Below.heap_setCell _ _ _ _ (by rcases hp with hp | hp <;> omega)]
  exact h.block k hk hg
theorem Chg.still {g : Nat} {a w w' : World} (h : Chg g a w) (hs : Still w w') : Chg g a w' :=
  ⟨hs.2.1.trans h.os, hs.2.2.1.trans h.tape, hs.2.2.2.trans h.output, by rw [hs.1]; exact h.size, fun k hk hg => by rw [hs.1]; exact h.block k hk hg⟩
theorem Chg.below {g : Nat} {w w' : World} (h : Below w.heap.size w w') : Chg g w w' := ⟨h.os, h.tape, h.output, h.size, fun k hk _ => h.block k hk⟩
theorem Below.chg {w0 w w' : World} {g : Nat} (h : Below w0.heap.size w0 w) (hc : Chg g w w') (hg : w0.heap.size ≤ g) : Below w0.heap.size w0 w' :=
  h.trans ⟨hc.os, hc.tape, hc.output, hc.size, fun k hk => hc.block k (by have := h.size; omega) (by omega)⟩

/-- block g holds a reader's two fields -/
def Two (w : World) (g : Nat) (A : Option Addr) (n cap : Nat) (bad : Bool) : Prop := w.heap[g]? = some (.cells #[.slice A n cap, .bool bad] 231 (0, 0))
theorem Two.lt {w : World} {g : Nat} {A : Option Addr} {n cap : Nat} {bad : Bool} (h : Two w g A n cap bad) : g < w.heap.size := by
  rcases Nat.lt_or_ge g w.heap.size with h' | h'
  · exact h'
  · unfold Two at h; rw [Array.getElem?_eq_none h'] at h; cases h
theorem Two.cells {w : World} {g : Nat} {A : Option Addr} {n cap : Nat} {bad : Bool} (h : Two w g A n cap bad) :
    w.cell? ⟨g, 0, none⟩ = some (.slice A n cap) ∧ w.cell? ⟨g, 1, none⟩ = some (.bool bad) ∧ w.frozen? ⟨g, 0, none⟩ = false ∧ w.frozen? ⟨g, 1, none⟩ = false :=
  ⟨by rw [cell_of_row w g 0 _ _ (0, 0) h]; rfl, by rw [cell_of_row w g 1 _ _ (0, 0) h]; rfl, frozen_of_row w g 0 _ _ h, frozen_of_row w g 1 _ _ h⟩
theorem Two.of_block {w w' : World} {g : Nat} {A : Option Addr} {n cap : Nat} {bad : Bool} (h : Two w g A n cap bad) (hb : w'.heap[g]? = w.heap[g]?) : Two w' g A n cap bad := hb.trans h
theorem Two.set0 {w : World} {g : Nat} {A : Option Addr} {n cap : Nat} {bad : Bool} (h : Two w g A n cap bad) (A' : Option Addr) (n' cap' : Nat) : Two (w.setCell ⟨g, 0, none⟩ (.slice A' n' cap')) g A' n' cap' bad :=
  heap_setCell_same w g 0 _ _ _ h
theorem Two.set1 {w : World} {g : Nat} {A : Option Addr} {n cap : Nat} {bad : Bool} (h : Two w g A n cap bad) (bad' : Bool) : Two (w.setCell ⟨g, 1, none⟩ (.bool bad')) g A n cap bad' :=
  heap_setCell_same w g 1 _ _ _ h
theorem Two.other {w : World} {g : Nat} {A : Option Addr} {n cap : Nat} {bad : Bool} (h : Two w g A n cap bad) (p : Addr) (hp : p.block ≠ g) (u : Value) : Two (w.setCell p u) g A n cap bad :=
  h.of_block (Below.heap_setCell _ _ _ _ (Ne.symm hp))
theorem Two.still {w w' : World} {g : Nat} {A : Option Addr} {n cap : Nat} {bad : Bool} (h : Two w g A n cap bad) (hs : Still w w') : Two w' g A n cap bad := h.of_block (by rw [hs.1])
theorem Two.below {w w' : World} {g : Nat} {A : Option Addr} {n cap : Nat} {bad : Bool} (h : Two w g A n cap bad) (hb : Below w.heap.size w w') : Two w' g A n cap bad := h.of_block (hb.block g h.lt)
/-- bytes don't lie in a reader's block -/
theorem Sl.chg {w w' : World} {g : Nat} {A : Option Addr} {n cap : Nat} {zs : List Int} (h : Sl w A n cap zs) (hc : Chg g w w') {A' : Option Addr} {n' cap' : Nat} {bad : Bool} (ht : Two w g A' n' cap' bad) : Sl w' A n cap zs := by
  refine ⟨h.1.of_same fun a c ha => ?_, h.2⟩
  have hlt := lt_of_cell ha
  have hne : a.block ≠ g := by
    rintro rfl
    unfold World.cell? at ha
    rw [ht] at ha
    obtain ⟨b, off, sp⟩ := a
    rcases off with _ | _ | off
    · cases sp <;> simp at ha
    · cases sp <;> simp at ha
    · cases sp <;> simp at ha
  exact World.cell?_of_block (w := w) (hc.block _ hlt hne)

/-- a reader, with what is left to read -/
def Rdr (w : World) (g : Nat) (zs : List Int) (bad : Bool) : Prop := ∃ A n cap, Two w g A n cap bad ∧ Sl w A n cap zs ∧ n ≤ 140737488355328
theorem Rdr.below {w w' : World} {g : Nat} {zs : List Int} {bad : Bool} (h : Rdr w g zs bad) (hb : Below w.heap.size w w') : Rdr w' g zs bad := by
  obtain ⟨A, n, cap, h1, h2, h3⟩ := h
  exact ⟨A, n, cap, h1.below hb, h2.below hb, h3⟩
theorem Rdr.lt {w : World} {g : Nat} {zs : List Int} {bad : Bool} (h : Rdr w g zs bad) : g < w.heap.size := by
  obtain ⟨A, n, cap, h1, _⟩ := h
  exact h1.lt

set_option maxHeartbeats 800000 in
theorem clone_any (A : Option Addr) (n cap : Nat) (zs : List Int) (w : World) (hr : Rd w A n zs) (hA : A = none → cap = 0) (hn : n ≤ 140737488355328) : Calls Tryz.prog 110 #[.slice A n cap] w (Made w zs) := by
  have q := fun (w : World) (a : Option Addr) (l c : Nat) => run_eql_slice_nil (P := Tryz.prog) w 61 5 a l c Tryz.underlying61
  cases A with
  | none =>
    have hn0 : n = 0 := by
      rcases Nat.eq_zero_or_pos n with h0 | h0
      · exact h0
      · obtain ⟨b, off, he, _⟩ := hr.2.2.2 h0; cases he
    subst hn0
    obtain rfl : zs = [] := List.eq_nil_of_length_eq_zero hr.1
    obtain rfl := hA rfl
    clear hr hA
    go_enter Tryz.func110, Tryz.ntmps110
    go_wp2
    go_ret
    exact ⟨_, rfl, Own.nil w w (Below.refl _ _)⟩
  | some a =>
    have HR := Lib.hid hr
    have HA := Lib.hid hA
    have HO := Lib.hid (Own.made w w (Below.refl _ _))
    have HR1 := Lib.hid (HR.out.below HO.out.1)
    unfold noneBlk at HO HR1
    clear hr hA
    go_enter Tryz.func110, Tryz.ntmps110
    go_wp2_with (refine wpList_append_rd rfl _ _ rfl w _ [] rfl HO.out (some a) n cap zs rfl HA.out HR1.out (by simp; omega) ?_)
    intro v1 w1 hO1 _ _
    have HO2 := Lib.hid hO1
    clear hO1
    go_wp2
    go_ret
    exact ⟨_, rfl, HO2.out⟩

/-- a new reader -/
def IsNew (w : World) (zs : List Int) (e : Ending) (w' : World) : Prop := ∃ g, e = .returned (.pointer (some ⟨g, 0, none⟩)) ∧ w.heap.size ≤ g ∧ Rdr w' g zs false ∧ Below w.heap.size w w'
set_option maxHeartbeats 800000 in
theorem new_any (A : Option Addr) (n cap : Nat) (zs : List Int) (w : World) (hr : Rd w A n zs) (hA : A = none → cap = 0) (hn : n ≤ 140737488355328) : Calls Tryz.prog 192 #[.slice A n cap] w (IsNew w zs) := by
  have HN := Lib.hid (clone_any A n cap zs w hr hA hn)
  have HL := Lib.hid hr.1
  clear hr hA
  go_enter Tryz.func192, Tryz.ntmps192
  go_wp2_with fail
  refine HN.out.mono ?_
  rintro e w1 ⟨v, rfl, hO⟩
  obtain ⟨A1, c1, hv, hs, _⟩ := hO.sl n HL.out
  subst hv
  have HS := Lib.hid hs
  have HB := Lib.hid hO.1
  clear hs hO
  go_wp2
  go_ret
  exact ⟨w1.heap.size, rfl, HB.out.size, ⟨A1, n, c1, heap_alloc_new w1 _, HS.out.below ((Below.refl _ _).alloc (Nat.le_refl _) _), hn⟩, HB.out.alloc HB.out.size _⟩

set_option maxHeartbeats 800000 in
theorem unread_ok (g : Nat) (A : Option Addr) (n cap : Nat) (w : World) (h : Two w g A n cap false) : Calls Tryz.prog 235 #[.pointer (some ⟨g, 0, none⟩)] w fun e w' => e = .returned (.slice A n cap) ∧ w = w' := by
  obtain ⟨h1, h2, _, _⟩ := h.cells
  clear h
  go_enter Tryz.func235, Tryz.ntmps235
  go_wp2_with (go_at_call 236; refine (demand_ok _).mono ?_; rintro e w' ⟨rfl, rfl⟩)
  go_ret
  exact ⟨rfl, rfl⟩
set_option maxHeartbeats 800000 in
theorem unread_bad (g : Nat) (A : Option Addr) (n cap : Nat) (w : World) (h : Two w g A n cap true) : Calls Tryz.prog 235 #[.pointer (some ⟨g, 0, none⟩)] w fun e w' => e = .panicked errP ∧ w = w' := by
  obtain ⟨h1, h2, _, _⟩ := h.cells
  clear h
  go_enter Tryz.func235, Tryz.ntmps235
  go_wp2_with (go_at_call 236; refine (demand_bad _).mono ?_; rintro e w' ⟨rfl, rfl⟩)
  exact ⟨rfl, rfl, rfl⟩
def wholeB (zs : List Int) (bad : Bool) : Bool := !bad && decide (zs = [])
set_option maxHeartbeats 800000 in
theorem whole_any (g : Nat) (zs : List Int) (bad : Bool) (w : World) (h : Rdr w g zs bad) : Calls Tryz.prog 195 #[.pointer (some ⟨g, 0, none⟩)] w fun e w' => e = .returned (.bool (wholeB zs bad)) ∧ w = w' := by
  obtain ⟨A, n, cap, h, hs, _⟩ := h
  obtain ⟨h1, h2, _, _⟩ := h.cells
  have HW := Lib.hid (show wholeB zs bad = (!bad && ((n : Int) == 0)) by
    rw [wholeB]
    congr 1
    rw [Bool.eq_iff_iff]
    simp only [decide_eq_true_eq, beq_iff_eq]
    have := hs.1.1
    exact ⟨fun h => by rw [h] at this; simp at this; omega, fun h => List.eq_nil_of_length_eq_zero (by omega)⟩)
  have hm := hs.1.2.1
  unfold maxLen at hm
  clear h hs
  rw [HW.out]
  cases bad
  all_goals
    go_enter Tryz.func195, Tryz.ntmps195
    go_wp2
    go_ret
    exact ⟨rfl, rfl⟩
end Go.Proofs.YtnppomiggajhnaaGreatDoor.Fld

namespace Go.Proofs.YtnppomiggajhnaaGreatDoor.Fld
open Go.RowKit

/-- what was read, and the reader behind it -/
def Got (g : Nat) (w : World) (v : Value) (zs : List Int) (bad : Bool) (e : Ending) (w' : World) : Prop := e = .returned v ∧ Chg g w w' ∧ Rdr w' g zs bad
def NoByte (x : Value) : Prop := ∀ c, x ≠ .int .u8 c
/-- inside a method that began at w: its variable of the reader, its result's, the reader -/
def Fr (w W : World) (g : Nat) (x : Value) (A : Option Addr) (n cap : Nat) (bad : Bool) : Prop :=
  g < w.heap.size ∧ W.cell? ⟨w.heap.size, 0, none⟩ = some (.pointer (some ⟨g, 0, none⟩)) ∧ (∃ t, W.heap[w.heap.size + 1]? = some (.cells #[x] t (0, 0))) ∧ Two W g A n cap bad ∧ Chg g w W ∧ NoByte x
theorem Fr.cellM {w W : World} {g : Nat} {x : Value} {A : Option Addr} {n cap : Nat} {bad : Bool} (h : Fr w W g x A n cap bad) : W.cell? ⟨w.heap.size + 1, 0, none⟩ = some x ∧ W.frozen? ⟨w.heap.size + 1, 0, none⟩ = false := by
  obtain ⟨_, _, ⟨t, ht⟩, _⟩ := h
  exact ⟨by rw [cell_of_row W _ 0 _ _ (0, 0) ht]; rfl, frozen_of_row W _ 0 _ _ ht⟩
theorem Fr.start {w : World} {g : Nat} {A : Option Addr} {n cap : Nat} {bad : Bool} (h : Two w g A n cap bad) (x : Value) (hx : NoByte x) (t1 t2 : TypeId) : Fr w ((w.alloc (.cells #[.pointer (some ⟨g, 0, none⟩)] t1)).alloc (.cells #[x] t2)) g x A n cap bad := by
  have hb : Below w.heap.size w ((w.alloc (.cells #[.pointer (some ⟨g, 0, none⟩)] t1)).alloc (.cells #[x] t2)) := ((Below.refl _ _).alloc (Nat.le_refl _) _).alloc (by simp) _
  refine ⟨h.lt, by go_simp, ⟨t2, ?_⟩, h.below hb, Chg.below hb, hx⟩
  have := heap_alloc_new (w.alloc (.cells #[.pointer (some ⟨g, 0, none⟩)] t1)) (.cells #[x] t2)
  simpa using this
theorem Fr.still {w W W' : World} {g : Nat} {x : Value} {A : Option Addr} {n cap : Nat} {bad : Bool} (h : Fr w W g x A n cap bad) (hs : Still W W') : Fr w W' g x A n cap bad := by
  obtain ⟨h0, h1, ⟨t, h2⟩, h4, h5, h6⟩ := h
  exact ⟨h0, (hs.cell _).trans h1, ⟨t, by rw [hs.1]; exact h2⟩, h4.still hs, h5.still hs, h6⟩
theorem cell_other {w : World} {p q : Addr} {u : Value} (h : q.block ≠ p.block) : (w.setCell p u).cell? q = w.cell? q := World.cell?_of_block (w := w) (Below.heap_setCell w p u q.block h)
theorem Fr.setM {w W : World} {g : Nat} {x : Value} {A : Option Addr} {n cap : Nat} {bad : Bool} (h : Fr w W g x A n cap bad) (y : Value) (hy : NoByte y) : Fr w (W.setCell ⟨w.heap.size + 1, 0, none⟩ y) g y A n cap bad := by
  obtain ⟨h0, h1, ⟨t, h2⟩, h4, h5, _⟩ := h
  exact ⟨h0, (cell_other (by simp)).trans h1, ⟨t, heap_setCell_same W _ 0 _ _ _ h2⟩, h4.other _ (by simp; omega) _, h5.setCell _ (.inr (by simp)) _, hy⟩
theorem Fr.set0 {w W : World} {g : Nat} {x : Value} {A : Option Addr} {n cap : Nat} {bad : Bool} (h : Fr w W g x A n cap bad) (A' : Option Addr) (n' cap' : Nat) : Fr w (W.setCell ⟨g, 0, none⟩ (.slice A' n' cap')) g x A' n' cap' bad := by
  obtain ⟨h0, h1, ⟨t, h2⟩, h4, h5, h6⟩ := h
  exact ⟨h0, (cell_other (by simp; omega)).trans h1, ⟨t, (Below.heap_setCell _ _ _ _ (by simp; omega)).trans h2⟩, h4.set0 _ _ _, h5.setCell _ (.inl rfl) _, h6⟩
theorem Fr.set1 {w W : World} {g : Nat} {x : Value} {A : Option Addr} {n cap : Nat} {bad : Bool} (h : Fr w W g x A n cap bad) (bad' : Bool) : Fr w (W.setCell ⟨g, 1, none⟩ (.bool bad')) g x A n cap bad' := by
  obtain ⟨h0, h1, ⟨t, h2⟩, h4, h5, h6⟩ := h
  exact ⟨h0, (cell_other (by simp; omega)).trans h1, ⟨t, (Below.heap_setCell _ _ _ _ (by simp; omega)).trans h2⟩, h4.set1 _, h5.setCell _ (.inl rfl) _, h6⟩
theorem Fr.below {w W W' : World} {g : Nat} {x : Value} {A : Option Addr} {n cap : Nat} {bad : Bool} (h : Fr w W g x A n cap bad) (hb : Below W.heap.size W W') : Fr w W' g x A n cap bad := by
  obtain ⟨h0, h1, ⟨t, h2⟩, h4, h5, h6⟩ := h
  have lt : w.heap.size + 1 < W.heap.size := by
    rcases Nat.lt_or_ge (w.heap.size + 1) W.heap.size with h' | h'
    · exact h'
    · rw [Array.getElem?_eq_none h'] at h2; cases h2
  exact ⟨h0, (hb.cell (lt_of_cell h1)).trans h1, ⟨t, (hb.block _ lt).trans h2⟩, h4.below hb, h5.trans (Chg.below hb), h6⟩
/-- bytes don't lie in the method's variables, nor in the reader -/
theorem Fr.slM {w W : World} {g : Nat} {x : Value} {A : Option Addr} {n cap : Nat} {bad : Bool} (h : Fr w W g x A n cap bad) {A' : Option Addr} {n' cap' : Nat} {zs : List Int} (hs : Sl W A' n' cap' zs) (y : Value) : Sl (W.setCell ⟨w.heap.size + 1, 0, none⟩ y) A' n' cap' zs := by
  refine ⟨hs.1.of_same fun a c ha => cell_other ?_, hs.2⟩
  intro hab
  simp only at hab
  obtain ⟨_, _, ⟨t, ht⟩, _, _, hx⟩ := h
  unfold World.cell? at ha
  rw [hab, ht] at ha
  obtain ⟨b, off, sp⟩ := a
  rcases off with _ | off
  · cases sp
    · simp at ha; exact hx c ha
    · simp at ha
  · cases sp <;> simp at ha
theorem Fr.slG {w W : World} {g : Nat} {x : Value} {A : Option Addr} {n cap : Nat} {bad : Bool} (h : Fr w W g x A n cap bad) {A' : Option Addr} {n' cap' : Nat} {zs : List Int} (hs : Sl W A' n' cap' zs) (o : Nat) (y : Value) : Sl (W.setCell ⟨g, o, none⟩ y) A' n' cap' zs :=
  hs.chg ((Chg.refl g W).setCell _ (.inl rfl) _) h.2.2.2.1
theorem Fr.done {w W : World} {g : Nat} {x : Value} {A : Option Addr} {n cap : Nat} {bad : Bool} (h : Fr w W g x A n cap bad) {zs : List Int} (hs : Sl W A n cap zs) (hn : n ≤ 140737488355328) (v : Value) : Got g w v zs bad (.returned v) W := ⟨rfl, h.2.2.2.2.1, A, n, cap, h.2.2.2.1, hs, hn⟩
theorem cutNum_len (zs : List Int) (v : Nat) (r : List Int) (h : cutNum zs = some (v, r)) : r.length ≤ zs.length := by
  cases zs with
  | nil => simp [cutNum] at h
  | cons c rr =>
    rw [cutNum] at h
    split at h
    · simp only [Option.some.injEq, Prod.mk.injEq] at h
      rw [← h.2, List.length_drop, List.length_cons]; omega
    · cases h
theorem cutInt_len (zs : List Int) (v : Int) (r : List Int) (h : cutInt zs = some (v, r)) : r.length ≤ zs.length := by
  cases zs with
  | nil => simp [cutInt] at h
  | cons c rr =>
    rw [cutInt] at h
    split at h
    · split at h
      · simp only [Option.some.injEq, Prod.mk.injEq] at h
        rw [← h.2, List.length_drop, List.length_cons]; omega
      · cases h
    · split at h
      · simp only [Option.some.injEq, Prod.mk.injEq] at h
        rw [← h.2, List.length_drop, List.length_cons]; omega
      · cases h
theorem cutText_len (zs t r : List Int) (h : cutText zs = some (t, r)) : r.length ≤ zs.length ∧ t.length ≤ zs.length := by
  unfold cutText at h
  cases hc : cutNum zs with
  | none => rw [hc] at h; cases h
  | some q =>
    obtain ⟨m, rr⟩ := q
    have h0 := cutNum_len zs m rr hc
    rw [hc] at h
    simp only at h
    split at h
    · simp only [Option.some.injEq, Prod.mk.injEq] at h
      rw [← h.1, ← h.2, List.length_drop, List.length_take]; omega
    · cases h
end Go.Proofs.YtnppomiggajhnaaGreatDoor.Fld

namespace Go.Proofs.YtnppomiggajhnaaGreatDoor.Fld
open Go.RowKit

theorem nb_i64 (x : Int) : NoByte (.int .i64 x) := fun _ h => by cases h
set_option maxHeartbeats 800000 in
theorem rint_ok (g : Nat) (zs : List Int) (w : World) (hr : Rdr w g zs false) (v : Int) (r : List Int) (h : cutInt zs = some (v, r)) (low high : Int) (hm1 : low ≤ v) (hm2 : v ≤ high) :
    Calls Tryz.prog 216 #[.pointer (some ⟨g, 0, none⟩), .int .i64 low, .int .i64 high] w (Got g w (.int .i64 v) r false) := by
  obtain ⟨A, n, cap, ht, hs, hn⟩ := hr
  have hmf : ∀ (fn : Fn) (first cap : Array Value) (w : World), (Instr.makeFunc fn first cap).run Tryz.prog w = .ok (.func fn first cap) w := fun _ _ _ _ => rfl
  have hgl := ht.lt
  have HLN := Lib.hid (cutInt_len zs v r h)
  rw [hs.1.1] at HLN
  have HF := Lib.hid (Fr.start ht (.int .i64 0) (nb_i64 0) 210 2)
  have HS := Lib.hid (hs.chg HF.out.2.2.2.2.1 ht)
  have HC := Lib.hid h
  clear ht hs h
  go_enter_defers Tryz.func216, Tryz.ntmps216
  go_wp2_with fail
  refine (unread_ok g A n cap _ HF.out.2.2.2.1).mono ?_
  rintro e w' ⟨rfl, rfl⟩
  go_wp2_with fail
  refine (cutI_ok A n cap zs _ HS.out v r HC.out).mono ?_
  rintro e W ⟨a, n1, cap1, rfl, hs1, hst⟩
  have hf := HF.out.still hst
  have c0 := hf.2.1
  have c1 := hf.cellM.1
  have c2 := hf.cellM.2
  have c3 := hf.2.2.2.1.cells.1
  have c4 := hf.2.2.2.1.cells.2.2.1
  have hf1 := hf.setM (.int .i64 v) (nb_i64 _)
  have hf2 := hf1.set0 (some a) n1 cap1
  have HF1 := Lib.hid (hf2.setM (.int .i64 v) (nb_i64 _))
  have HS1 := Lib.hid (hf2.slM (hf1.slG (hf.slM hs1 (.int .i64 v)) 0 (.slice (some a) n1 cap1)) (.int .i64 v))
  have HN1 := Lib.hid (show n1 ≤ 140737488355328 by have := hs1.1.1; have := HLN.out; omega)
  clear HF HS hst hf1 hf2 hs1 hf
  have d1 : ¬ g = w.heap.size := by omega
  have d2 : ¬ g = w.heap.size + 1 := by omega
  have d3 : ¬ w.heap.size = g := by omega
  have d4 : ¬ w.heap.size + 1 = g := by omega
  go_wp2_with (go_at_call 236; refine (demand_ok _).mono ?_; rintro e w' ⟨rfl, rfl⟩)
  clear c0 c1 c2 c3 c4
  generalize ((W.setCell _ _).setCell _ _).setCell _ _ = W4 at HF1 HS1 ⊢
  have c1 := HF1.out.cellM.1
  refine leaves_cons (f := 233) (args := #[.pointer (some ⟨w.heap.size + 1, 0, none⟩), .pointer (some ⟨w.heap.size, 0, none⟩)]) (by simp) (by simp [go_sem]) ?_
  refine (catchI_idle _ _ _).mono ?_
  rintro e u' w'' ⟨rfl, rfl, rfl⟩
  simp [Leaves, settle, results, Tryz.results216, go_sem, c1]
  exact HF1.out.done HS1.out HN1.out _

/-- the door, where the method panicked -/
theorem doorI {w W : World} {g : Nat} {x : Value} {A : Option Addr} {n cap : Nat} {bad : Bool} (hf : Fr w W g x A n cap bad) {zs : List Int} (hs : Sl W A n cap zs) (hn : n ≤ 140737488355328) (ts : Array Value) (h6 : ts[6]? = some (.pointer (some ⟨w.heap.size + 1, 0, none⟩))) :
    bodyPostD Tryz.prog Tryz.f216 (Got g w (.int .i64 0) zs true) (Exit.panic errP) { tmps := ts, defers := [{ target := Target.fn (Fn.func 233) #[.pointer (some ⟨w.heap.size + 1, 0, none⟩), .pointer (some ⟨w.heap.size, 0, none⟩)], args := #[] }] } W := by
  have hgl := hf.1
  have hf1 := hf.setM (.int .i64 0) (nb_i64 _)
  have hf2 := hf1.set1 true
  have hs2 := hf1.slG (hf.slM hs (.int .i64 0)) 1 (.bool true)
  have c1 := hf2.cellM.1
  refine leaves_cons (f := 233) (args := #[.pointer (some ⟨w.heap.size + 1, 0, none⟩), .pointer (some ⟨w.heap.size, 0, none⟩)]) (by simp) (by simp [go_sem]) ?_
  refine (catchI_panic ⟨w.heap.size + 1, 0, none⟩ ⟨w.heap.size, 0, none⟩ g x bad W hf.cellM.1 hf.cellM.2 hf.2.1 hf.2.2.2.1.cells.2.1 hf.2.2.2.1.cells.2.2.2 (by simp; omega) [] 29 (.int .i64 6)).mono ?_
  rintro e u' w'' ⟨rfl, rfl, rfl⟩
  generalize (W.setCell _ _).setCell _ _ = W4 at hf2 hs2 c1 ⊢
  simp [Leaves, settle, results, Tryz.results216, go_sem, Array.getD_eq_getD_getElem?, h6, c1]
  exact hf2.done hs2 hn _

set_option maxHeartbeats 800000 in
theorem rint_bad (g : Nat) (zs : List Int) (w : World) (bad : Bool) (hr : Rdr w g zs bad) (low high : Int) (h : bad = true ∨ cutInt zs = none ∨ ∃ v r, cutInt zs = some (v, r) ∧ (v < low ∨ high < v)) :
    Calls Tryz.prog 216 #[.pointer (some ⟨g, 0, none⟩), .int .i64 low, .int .i64 high] w (Got g w (.int .i64 0) zs true) := by
  obtain ⟨A, n, cap, ht, hs, hn⟩ := hr
  have hmf : ∀ (fn : Fn) (first cap : Array Value) (w : World), (Instr.makeFunc fn first cap).run Tryz.prog w = .ok (.func fn first cap) w := fun _ _ _ _ => rfl
  have hgl := ht.lt
  have HF := Lib.hid (Fr.start ht (.int .i64 0) (nb_i64 0) 210 2)
  have HS := Lib.hid (hs.chg HF.out.2.2.2.2.1 ht)
  have HH := Lib.hid h
  clear ht hs h
  cases bad with
  | true =>
    go_enter_defers Tryz.func216, Tryz.ntmps216
    go_wp2_with fail
    refine (unread_bad g A n cap _ HF.out.2.2.2.1).mono ?_
    rintro e w' ⟨rfl, rfl⟩
    exact doorI HF.out HS.out hn _ rfl
  | false =>
    cases hc : cutInt zs with
    | none =>
      have HC := Lib.hid hc
      clear hc
      go_enter_defers Tryz.func216, Tryz.ntmps216
      go_wp2_with fail
      refine (unread_ok g A n cap _ HF.out.2.2.2.1).mono ?_
      rintro e w' ⟨rfl, rfl⟩
      go_wp2_with fail
      refine (cutI_bad A n cap zs _ HS.out HC.out).mono ?_
      rintro e W ⟨rfl, hst⟩
      exact doorI (HF.out.still hst) (Still.sl HS.out hst) hn _ rfl
    | some q =>
      obtain ⟨v, r⟩ := q
      have hv : v < low ∨ high < v := by
        rcases HH.out with h | h | ⟨v', r', h, h'⟩
        · cases h
        · rw [hc] at h; cases h
        · rw [hc] at h; cases h; exact h'
      have HC := Lib.hid hc
      clear hc HH
      by_cases hlo : low ≤ v
      · have hhi : decide (v ≤ high) = false := by simp; omega
        go_enter_defers Tryz.func216, Tryz.ntmps216
        go_wp2_with fail
        refine (unread_ok g A n cap _ HF.out.2.2.2.1).mono ?_
        rintro e w' ⟨rfl, rfl⟩
        go_wp2_with fail
        refine (cutI_ok A n cap zs _ HS.out v r HC.out).mono ?_
        rintro e W ⟨a, n1, cap1, rfl, hs1, hst⟩
        have hf := HF.out.still hst
        have c0 := hf.2.1
        have c1 := hf.cellM.1
        have c2 := hf.cellM.2
        have HF1 := Lib.hid (hf.setM (.int .i64 v) (nb_i64 _))
        have HS1 := Lib.hid (hf.slM (Still.sl HS.out hst) (.int .i64 v))
        clear HF HS hst hf
        go_wp2_with (go_at_call 236; refine (demand_bad _).mono ?_; rintro e w' ⟨rfl, rfl⟩)
        exact doorI HF1.out HS1.out hn _ rfl
      · have hlo2 : decide (low ≤ v) = false := by simp; omega
        go_enter_defers Tryz.func216, Tryz.ntmps216
        go_wp2_with fail
        refine (unread_ok g A n cap _ HF.out.2.2.2.1).mono ?_
        rintro e w' ⟨rfl, rfl⟩
        go_wp2_with fail
        refine (cutI_ok A n cap zs _ HS.out v r HC.out).mono ?_
        rintro e W ⟨a, n1, cap1, rfl, hs1, hst⟩
        have hf := HF.out.still hst
        have c0 := hf.2.1
        have c1 := hf.cellM.1
        have c2 := hf.cellM.2
        have HF1 := Lib.hid (hf.setM (.int .i64 v) (nb_i64 _))
        have HS1 := Lib.hid (hf.slM (Still.sl HS.out hst) (.int .i64 v))
        clear HF HS hst hf
        go_wp2_with (go_at_call 236; refine (demand_bad _).mono ?_; rintro e w' ⟨rfl, rfl⟩)
        exact doorI HF1.out HS1.out hn _ rfl
end Go.Proofs.YtnppomiggajhnaaGreatDoor.Fld
