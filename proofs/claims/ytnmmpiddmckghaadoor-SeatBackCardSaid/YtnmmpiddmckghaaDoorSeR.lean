/-
  Layer 13: place and read of the program: a name taken apart. No condition.
-/
import Derived.Test.YtnmmpiddmckghaaDoorSeLab
import Derived.Test.YtnmmpiddmckghaaDoorSeA
import Derived.Lib.OthersKept
import Derived.Laws.RangeAny
import Derived.OwnWalk
namespace Go.Proofs.YtnmmpiddmckghaaDoor.Se
open Go.RowKit Go.Proofs.YtnmmpiddmckghaaDoor.Qu Go.Proofs.YtnmmpiddmckghaaDoor.Fld
set_option linter.unusedVariables false

def letL : List Int := [65, 66, 67, 68, 69, 70, 71, 72, 74, 75]
def plcZ (z : Int) : Option Nat := letL.idxOf? z
def plcI (z : Int) : Int := match plcZ z with
  | some k => k
  | none => -1
theorem plc_first {z : Int} {k : Nat} (hk : k < 10) (he : letL.getD k 0 = z) (hb : ∀ j, j < k → letL.getD j 0 ≠ z) : plcZ z = some k := by
  unfold plcZ
  rw [List.idxOf?_eq_some_iff]
  have hl : k < letL.length := hk
  refine ⟨hl, ?_, fun j hj => ?_⟩
  · rw [List.getD_eq_getElem?_getD, List.getElem?_eq_getElem hl] at he
    exact he
  · have := hb j hj
    rw [List.getD_eq_getElem?_getD, List.getElem?_eq_getElem (show j < letL.length by omega)] at this
    intro h
    exact this h
theorem plc_none {z : Int} (h : ∀ j, j < 10 → letL.getD j 0 ≠ z) : plcZ z = none := by
  unfold plcZ
  rw [List.idxOf?_eq_none_iff]
  intro hm
  obtain ⟨j, hj, he⟩ := List.getElem_of_mem hm
  have := h j hj
  rw [List.getD_eq_getElem?_getD, List.getElem?_eq_getElem hj] at this
  exact this he
theorem plc_nat : ∀ b : Nat, b < 256 → plcZ (b : Int) = plc b := by decide +kernel
theorem plc_big {z : Int} (h : 128 ≤ z) : plcZ z = none := by
  refine plc_none fun j hj => ?_
  rcases (show j = 0 ∨ j = 1 ∨ j = 2 ∨ j = 3 ∨ j = 4 ∨ j = 5 ∨ j = 6 ∨ j = 7 ∨ j = 8 ∨ j = 9 from by omega) with rfl | rfl | rfl | rfl | rfl | rfl | rfl | rfl | rfl | rfl <;> (simp [letL]; omega)
theorem plc_bd {z : Int} {k : Nat} (h : plcZ z = some k) : k < 10 := by
  unfold plcZ at h
  rw [List.idxOf?_eq_some_iff] at h
  obtain ⟨hk, _⟩ := h
  exact hk
theorem let_at0 (m : Nat) (hm : m < 10) (h : m < (⟨#[65, 66, 67, 68, 69, 70, 71, 72, 74, 75]⟩ : ByteArray).size) : (((⟨#[65, 66, 67, 68, 69, 70, 71, 72, 74, 75]⟩ : ByteArray)[m]'h).toNat : Int) = letL.getD m 0 := by
  rcases (show m = 0 ∨ m = 1 ∨ m = 2 ∨ m = 3 ∨ m = 4 ∨ m = 5 ∨ m = 6 ∨ m = 7 ∨ m = 8 ∨ m = 9 from by omega) with rfl | rfl | rfl | rfl | rfl | rfl | rfl | rfl | rfl | rfl <;> rfl
theorem let_bd : ∀ m, m < 10 → letL.getD m 0 < 128 := by decide
theorem let_at (m : Nat) (hm : m < 10) (h : m < (⟨#[65, 66, 67, 68, 69, 70, 71, 72, 74, 75]⟩ : ByteArray).size) : (((⟨#[65, 66, 67, 68, 69, 70, 71, 72, 74, 75]⟩ : ByteArray)[m]'h).toNat : Int) = letL.getD m 0 ∧ ((⟨#[65, 66, 67, 68, 69, 70, 71, 72, 74, 75]⟩ : ByteArray)[m]'h).toNat < 128 := by
  have h1 := let_at0 m hm h
  have h2 := let_bd m hm
  exact ⟨h1, by omega⟩
theorem iter_below (w : World) (s : ByteArray) (pos : Nat) : Below w.heap.size w (w.iter s pos) := (Below.refl _ _).alloc (Nat.le_refl _) _
set_option maxRecDepth 100000 in
set_option maxHeartbeats 1600000 in
theorem place_any (z : Int) (w : World) : Calls Tryd.prog 35 #[.int .i32 z] w fun e w' => e = .returned (.int .i64 (plcI z)) ∧ Below w.heap.size w w' := by
  obtain ⟨s, hs⟩ : ∃ s : ByteArray, s = ⟨#[65, 66, 67, 68, 69, 70, 71, 72, 74, 75]⟩ := ⟨_, rfl⟩
  have hsz : s.size = 10 := by rw [hs]; rfl
  have HAT := Lib.hid (show ∀ m (h : m < s.size), ((s[m]'h).toNat : Int) = letL.getD m 0 ∧ (s[m]'h).toNat < 128 by subst hs; intro m h; exact let_at m h h)
  have HB := Lib.hid (fun pos => iter_below w s pos)
  have HFI := Lib.hid (fun k => plc_first (z := z) (k := k))
  have HNO := Lib.hid (plc_none (z := z))
  have HPI := Lib.hid (show plcI z = match plcZ z with
    | some k => (k : Int)
    | none => -1 from rfl)
  generalize plcI z = P at *
  go_enter Tryd.func35, Tryd.ntmps35
  rw [← hs]
  clear hs
  go_wp2
  go_loopw [3] (fun i wr => ∃ pos : Nat, pos ≤ 10 ∧ wr = w.iter s pos ∧ ∀ j, j < pos → letL.getD j 0 ≠ z) (fun _ wr => s.size - wr.iterPos w.heap.size)
  case atStart => exact ⟨0, by omega, rfl, fun j hj => by omega⟩
  case round =>
    obtain ⟨pos, hp, rfl, hall⟩ := hrel
    have HA := Lib.hid hall
    clear hall
    by_cases hlt : pos < s.size
    · obtain ⟨ha1, ha2⟩ := HAT.out pos hlt
      have hnx := fun ty => run_next_ascii (P := Tryd.prog) w s pos ty hlt ha2
      have HF1 := Lib.hid (HFI.out pos (by omega))
      rw [ha1] at hnx
      by_cases he : letL.getD pos 0 = z
      · have HF2 := Lib.hid (HF1.out he HA.out)
        have HP2 := Lib.hid (show P = (pos : Int) by rw [HPI.out, HF2.out])
        have hb : (letL.getD pos 0 == z) = true := by simpa using he
        generalize letL.getD pos 0 = y at *
        go_wp2
        go_ret
        exact ⟨by rw [HP2.out]; rfl, HB.out _⟩
      · have hb : (letL.getD pos 0 == z) = false := by simpa using he
        have HA2 := Lib.hid (show ∀ j, j < pos + 1 → letL.getD j 0 ≠ z by
          intro j hj
          rcases Nat.lt_or_eq_of_le (Nat.le_of_lt_succ hj) with h | h
          · exact HA.out j h
          · subst h; exact he)
        generalize letL.getD pos 0 = y at *
        go_wp2
        go_roundw
        case rel => exact ⟨pos + 1, by omega, rfl, HA2.out⟩
        case measure => simp; omega
    · have hnx := fun ty => run_next_end (P := Tryd.prog) w s pos ty hlt
      obtain rfl : pos = 10 := by omega
      have HP2 := Lib.hid (show P = -1 by rw [HPI.out, HNO.out HA.out])
      go_wp2
      go_ret
      exact ⟨by rw [HP2.out]; rfl, HB.out _⟩
/-- what read answers -/
def readV (t : Option (Nat × Nat)) : Value := match t with
  | some (a, b) => .tuple #[.int .i64 (a : Int), .int .i64 (b : Int), .bool true]
  | none => .tuple #[.int .i64 0, .int .i64 0, .bool false]
/-- how read stands: the row and the column so far, and what is still to come -/
def RdSt (t : Option (Nat × Nat)) (R : Nat) (c : Int) (rest : List UInt8) : Prop :=
  R ≤ 60 ∧ ((c = -1 ∧ rd R rest = t) ∨ (∃ k : Nat, c = k ∧ k < 10 ∧ t = if rest = [] ∧ R ≠ 0 then some (R - 1, k) else none))
theorem drop_cons (s : ByteArray) (pos : Nat) (h : pos < s.size) : s.data.toList.drop pos = (s[pos]'h) :: s.data.toList.drop (pos + 1) := List.drop_eq_getElem_cons (by simpa using h)
theorem drop_end (s : ByteArray) (pos : Nat) (h : s.size ≤ pos) : s.data.toList.drop pos = [] := List.drop_eq_nil_of_le (by simpa using h)
theorem rd_digit {R : Nat} {b : UInt8} {rest : List UInt8} (h1 : 48 ≤ b.toNat) (h2 : b.toNat ≤ 57) : rd R (b :: rest) = if R * 10 + (b.toNat - 48) = 0 ∨ 60 < R * 10 + (b.toNat - 48) then none else rd (R * 10 + (b.toNat - 48)) rest := by
  rw [rd, if_pos ⟨h1, h2⟩]
theorem rd_other {R : Nat} {b : UInt8} {rest : List UInt8} (h : ¬ (48 ≤ b.toNat ∧ b.toNat ≤ 57)) : rd R (b :: rest) = match plcZ (b.toNat : Int) with
    | none => none
    | some c => if rest = [] ∧ R ≠ 0 then some (R - 1, c) else none := by
  rw [rd, if_neg h, plc_nat _ b.toNat_lt]
  cases plc b.toNat <;> rfl
set_option maxRecDepth 100000 in
set_option maxHeartbeats 3200000 in
theorem read_any (s : ByteArray) (hsz : s.size ≤ 9223372036854775807) (w : World) : Calls Tryd.prog 31 #[.string s] w fun e w' => e = .returned (readV (rd 0 s.data.toList)) ∧ Below w.heap.size w w' := by
  obtain ⟨T, hT⟩ : ∃ T, rd 0 s.data.toList = T := ⟨_, rfl⟩
  have HT := Lib.hid (show RdSt T 0 (-1) (s.data.toList.drop 0) from ⟨by omega, .inl ⟨rfl, by rw [List.drop_zero]; exact hT⟩⟩)
  have HB := Lib.hid (iter_below w s 0)
  have HIT := Lib.hid (World.iter_heap w s 0)
  have HDC := Lib.hid (fun pos h => drop_cons s pos h)
  have HDE := Lib.hid (fun pos h => drop_end s pos h)
  have HHI := Lib.hid (fun pos h => decode_high s pos h)
  have HLE := Lib.hid (fun pos => decode_le s pos)
  have HPL := Lib.hid (fun z w => place_any z w)
  rw [hT]
  clear hT
  go_enter Tryd.func31, Tryd.ntmps31
  go_wp2
  generalize hw0 : w.iter s 0 = wi at *
  have HW0 := Lib.hid hw0
  go_loopw [2, 3] (fun R c wr => ∃ (pos R' : Nat) (c' : Int), pos ≤ s.size ∧ R = .int .i64 (R' : Int) ∧ c = .int .i64 c' ∧ RdSt T R' c' (s.data.toList.drop pos) ∧ wr.heap[w.heap.size]? = some (.stringIter s pos) ∧ Below w.heap.size w wr) (fun _ _ wr => s.size - wr.iterPos w.heap.size)
  case atStart => exact ⟨0, 0, -1, by omega, rfl, rfl, HT.out, HIT.out, HB.out⟩
  case round =>
    obtain ⟨pos, R, c, hp, rfl, rfl, hst, hit, hbw⟩ := hrel
    have HS := Lib.hid hst
    have HI := Lib.hid hit
    have HBW := Lib.hid hbw
    have hR := hst.1
    clear hst hbw
    by_cases hlt : pos < s.size
    · have HD := Lib.hid (HDC.out pos hlt)
      have hnx := fun ty => Lib.run_next_any_at (P := Tryd.prog) wr w.heap.size s pos ty hit hlt
      obtain ⟨vz, hvz⟩ : ∃ vz, Utf8.decode s pos = vz := ⟨_, rfl⟩
      have hle := HLE.out pos
      have HASC := Lib.hid (fun ha => decode_ascii s pos hlt ha)
      have HHIGH := Lib.hid (HHI.out pos hlt)
      rw [hvz] at hnx hle HASC HHIGH
      clear hvz hit
      obtain ⟨z, wd⟩ := vz
      simp only at hnx hle HASC HHIGH
      have HI2 := Lib.hid (Lib.iterAt_heap wr w.heap.size s pos (pos + wd) HI.out)
      have HB2 := Lib.hid (Lib.below_iterAt HBW.out (Nat.le_refl _) s (pos + wd))
      generalize hw2 : wr.iterAt w.heap.size s (pos + wd) = w2 at *
      have HW2 := Lib.hid hw2
      clear hw2
      have HP2 := Lib.hid (HPL.out (z : Int) w2)
      generalize hb : s[pos]'hlt = b at *
      have HBB := Lib.hid b.toNat_lt
      have hz9 : (z : Int) ≤ 2147483647 := by omega
      obtain ⟨-, hA | ⟨k, rfl, hk, hTk⟩⟩ := HS.out
      · obtain ⟨rfl, hTA⟩ := hA
        rw [HD.out] at hTA
        have HTA := Lib.hid hTA
        clear hTA
        by_cases hd : 48 ≤ z ∧ z ≤ 57
        · have hb7 : b.toNat < 128 := by
            rcases Nat.lt_or_ge b.toNat 128 with h | h
            · exact h
            · have := (HHIGH.out h).1; omega
          obtain ⟨e1, e2⟩ := Prod.mk.inj (HASC.out hb7)
          subst e2
          have HRD := Lib.hid (rd_digit (R := R) (rest := s.data.toList.drop (pos + 1)) (b := b) (by omega) (by omega))
          rw [← e1] at HRD
          have E1 := Lib.hid e1
          clear e1
          have d1 : (48 : Int) ≤ (z : Int) := by omega
          have d2 : (z : Int) ≤ 57 := by omega
          obtain ⟨R2, hR2⟩ : ∃ R2 : Nat, R * 10 + (z - 48) = R2 := ⟨_, rfl⟩
          rw [hR2] at HRD
          have q1 : (R : Int) * 10 + ((z : Int) - 48) = (R2 : Int) := by omega
          have HQ := Lib.hid q1
          by_cases h0 : R2 = 0
          · have HN := Lib.hid (show T = none by rw [← HTA.out, HRD.out, if_pos (.inl h0)])
            subst h0
            go_wp2
            go_ret3
            exact ⟨by rw [HN.out]; rfl, HB2.out⟩
          by_cases h6 : 60 < R2
          · have HN := Lib.hid (show T = none by rw [← HTA.out, HRD.out, if_pos (.inr h6)])
            have h6' : (60 : Int) < (R2 : Int) := by omega
            have h0' : ((R2 : Int) == 0) = false := by simp; omega
            go_wp2
            go_ret3
            exact ⟨by rw [HN.out]; rfl, HB2.out⟩
          have HN := Lib.hid (show rd R2 (s.data.toList.drop (pos + 1)) = T by rw [← HTA.out, HRD.out, if_neg (by omega)])
          have h0' : ((R2 : Int) == 0) = false := by simp; omega
          have h6' : ¬ (60 : Int) < (R2 : Int) := by omega
          go_wp2
          go_roundw
          case rel => exact ⟨pos + 1, R2, -1, by omega, by first | rfl | (congr 1; go_num), rfl, ⟨by omega, .inl ⟨rfl, HN.out⟩⟩, HI2.out, HB2.out⟩
          case measure =>
            have m1 := HI.out
            have m2 := HI2.out
            simp only [World.iterPos, m1, m2]
            omega
        · obtain ⟨hM, hW1⟩ : (T = match plcZ (z : Int) with
            | none => none
            | some k => if s.data.toList.drop (pos + 1) = [] ∧ R ≠ 0 then some (R - 1, k) else none) ∧ (plcZ (z : Int) ≠ none → wd = 1) := by
            rcases Nat.lt_or_ge b.toNat 128 with hb7 | hb7
            · obtain ⟨e1, e2⟩ := Prod.mk.inj (HASC.out hb7)
              refine ⟨?_, fun _ => e2⟩
              rw [← HTA.out, rd_other (by omega), e1]
            · have h1 := (HHIGH.out hb7).1
              rw [plc_big (by omega : (128 : Int) ≤ (z : Int))]
              refine ⟨?_, fun h => absurd rfl h⟩
              rw [← HTA.out, rd_other (by omega), plc_big (by omega)]
          have HM := Lib.hid hM
          have HW1 := Lib.hid hW1
          have HPI := Lib.hid (show plcI (z : Int) = match plcZ (z : Int) with
            | some k => (k : Int)
            | none => -1 from rfl)
          have HBD := Lib.hid (fun k h => plc_bd (z := (z : Int)) (k := k) h)
          clear hM hW1
          have hd3 : (z : Int) < 48 ∨ (57 : Int) < (z : Int) := by omega
          rcases hd3 with d1 | d1
          all_goals
            go_wp2_with fail
            refine HP2.out.mono ?_
            rintro e w3 ⟨rfl, hb3⟩
            have HB3 := Lib.hid (HB2.out.trans (hb3.mono HB2.out.size))
            have HI3 := Lib.hid (show w3.heap[w.heap.size]? = some (.stringIter s (pos + wd)) by
              have hlt2 : w.heap.size < w2.heap.size := (Array.getElem?_eq_some_iff.1 HI2.out).1
              rw [hb3.block _ hlt2]
              exact HI2.out)
            clear hb3
            cases hp : plcZ (z : Int) with
            | none =>
              have HN := Lib.hid (show T = none by rw [HM.out, hp])
              have HV := Lib.hid (show plcI (z : Int) = -1 by rw [HPI.out, hp])
              rw [HV.out]
              clear hp
              go_wp2
              go_ret3
              exact ⟨by rw [HN.out]; rfl, HB3.out⟩
            | some k =>
              have hk := HBD.out k hp
              have HN := Lib.hid (show T = if s.data.toList.drop (pos + 1) = [] ∧ R ≠ 0 then some (R - 1, k) else none by rw [HM.out, hp])
              have hwd : wd = 1 := HW1.out (by rw [hp]; exact fun h => by cases h)
              have HV := Lib.hid (show plcI (z : Int) = k by rw [HPI.out, hp])
              rw [HV.out]
              subst hwd
              clear hp
              have hk' : ¬ (k : Int) < 0 := by omega
              go_wp2
              go_roundw
              case rel => exact ⟨pos + 1, R, k, by omega, rfl, rfl, ⟨by omega, .inr ⟨k, rfl, hk, HN.out⟩⟩, HI3.out, HB3.out⟩
              case measure =>
                have m1 := HI.out
                have m3 := HI3.out
                simp only [World.iterPos, m1, m3]
                omega
      · have HN := Lib.hid (show T = none by rw [hTk, HD.out]; simp)
        have hk' : (0 : Int) ≤ (k : Int) := by omega
        go_wp2
        go_ret3
        exact ⟨by rw [HN.out]; rfl, HB2.out⟩
    · have hnx := fun ty => Lib.run_next_end_at (P := Tryd.prog) wr w.heap.size s pos ty hit hlt
      obtain ⟨-, hA | ⟨k, rfl, hk, hTk⟩⟩ := HS.out
      · obtain ⟨rfl, hTA⟩ := hA
        have HN := Lib.hid (show T = none by rw [← hTA, HDE.out pos (by omega)]; cases R <;> rfl)
        clear hTA
        by_cases hR0 : R = 0
        · subst hR0
          go_wp2
          go_ret3
          exact ⟨by rw [HN.out]; rfl, HBW.out⟩
        · have h0 : ((R : Int) == 0) = false := by simp; omega
          go_wp2
          go_ret3
          exact ⟨by rw [HN.out]; rfl, HBW.out⟩
      · have hk' : ¬ (k : Int) < 0 := by omega
        by_cases hR0 : R = 0
        · have HN := Lib.hid (show T = none by rw [hTk, if_neg (fun h => h.2 hR0)])
          clear hTk
          subst hR0
          go_wp2
          go_ret3
          exact ⟨by rw [HN.out]; rfl, HBW.out⟩
        · have HN := Lib.hid (show T = some (R - 1, k) by rw [hTk, if_pos ⟨HDE.out pos (by omega), hR0⟩])
          clear hTk
          have h0 : ((R : Int) == 0) = false := by simp; omega
          go_wp2
          go_ret3
          exact ⟨by rw [HN.out]; unfold readV; simp only []; rw [show ((R - 1 : Nat) : Int) = (R : Int) - 1 by omega]; rfl, HBW.out⟩
end Go.Proofs.YtnmmpiddmckghaaDoor.Se
