/-
  Layer 9, lists with a number taken out: without, in the program and in the document's own. Conditions: the lists can be read, and are short.
-/
import Derived.Test.YtnhcbampojpgfaaGreatQuR
import Derived.Test.YtnhcbampojpgfaaGreatShelf
import Derived.Lib.AppendZeros
import Derived.Deep.RegionHeld3
import Derived.Deep.RegionWith
namespace Go.Proofs.YtnhcbampojpgfaaGreat.Qu
open Go.RowKit Go.Proofs.YtnhcbampojpgfaaGreat.Fld
set_option linter.unusedVariables false

theorem RdI.tail {w : World} {A : Option Addr} {n : Nat} {zs : List Int} (hr : RdI w A n zs) (b off cap f : Nat) (hf : f ≤ n) (hn : n ≤ cap) (hA : A = some ⟨b, off, none⟩) : RdI w (some (past ⟨b, off, none⟩ cap f)) (n - f) (zs.drop f) := by
  obtain ⟨h1, h2, h3⟩ := hr
  refine ⟨by rw [List.length_drop, h1], by omega, fun hp => ?_⟩
  obtain ⟨b', off', he, hc⟩ := h3 (by omega)
  rw [hA] at he
  injection he with he
  injection he with e1 e2
  subst e1 e2
  unfold past
  rw [if_neg (by omega)]
  refine ⟨b, off + f, rfl, fun i hi => ?_⟩
  rw [Nat.add_assoc, hc (f + i) (by omega)]
  rw [List.getD_eq_getElem?_getD, List.getD_eq_getElem?_getD, List.getElem?_drop]
theorem RdI.cut {w : World} {A : Option Addr} {n : Nat} {zs : List Int} (hr : RdI w A n zs) (u : Nat) (hu : u ≤ n) : RdI w A u (zs.take u) := by
  obtain ⟨h1, h2, h3⟩ := hr
  refine ⟨by rw [List.length_take]; omega, by omega, fun hp => ?_⟩
  obtain ⟨b, off, rfl, hc⟩ := h3 (by omega)
  refine ⟨b, off, rfl, fun i hi => ?_⟩
  rw [hc i (by omega), List.getD_eq_getElem?_getD, List.getD_eq_getElem?_getD, List.getElem?_take, if_pos hi]
theorem run_none (W : World) : (Instr.slice 44 (.slice none 0 0) (some (.int .i64 0)) none none).run Tryz.prog W = .ok (.slice none 0 0) W := by go_simp
theorem run_zero (a : Addr) (cap : Nat) (hm : cap ≤ 9223372036854775807) (W : World) : (Instr.slice 44 (.slice (some a) 0 cap) (some (.int .i64 0)) none none).run Tryz.prog W = .ok (.slice (some a) 0 cap) W := by
  have h0 : (0 : Int) ≤ (cap : Int) := by omega
  go_simp
theorem run_upto (A : Option Addr) (n cap u : Nat) (hA : A = none → cap = 0) (hu : u ≤ cap) (W : World) : (Instr.slice 44 (.slice A n cap) none (some (.int .i64 (u : Int))) none).run Tryz.prog W = .ok (.slice A u cap) W := by
  cases A with
  | some a =>
    have h1 : (0 : Int) ≤ (u : Int) := by omega
    have h3 : (u : Int) ≤ (cap : Int) := by omega
    go_simp
  | none =>
    obtain rfl := hA rfl
    obtain rfl : u = 0 := by omega
    go_simp
theorem run_from (b off n cap f : Nat) (hf : f ≤ n) (hn : n ≤ cap) (hm : cap ≤ 9223372036854775807) (W : World) : (Instr.slice 44 (.slice (some ⟨b, off, none⟩) n cap) (some (.int .i64 (f : Int))) none none).run Tryz.prog W = .ok (.slice (some (past ⟨b, off, none⟩ cap f)) (n - f) (cap - f)) W := by
  unfold past
  by_cases h : cap = f
  · obtain rfl : n = f := by omega
    subst h
    rw [if_pos rfl]
    have h1 : (0 : Int) ≤ (cap : Int) := by omega
    go_simp
  · rw [if_neg h]
    have h1 : (0 : Int) ≤ (f : Int) := by omega
    have h2 : (f : Int) ≤ (n : Int) := by omega
    have h3 : (n : Int) ≤ (cap : Int) := by omega
    go_simp
/-- 's[f:]', wherever s lies -/
theorem tail_any {w : World} {A : Option Addr} {n cap : Nat} {zs : List Int} (hr : RdI w A n zs) (hA : A = none → cap = 0) (hn : n ≤ cap) (hm : cap ≤ 9223372036854775807) (f : Nat) (hf : f ≤ n) :
    ∃ A' cap', (∀ W, (Instr.slice 44 (.slice A n cap) (some (.int .i64 (f : Int))) none none).run Tryz.prog W = .ok (.slice A' (n - f) cap') W) ∧ RdI w A' (n - f) (zs.drop f) ∧ (A' = none → cap' = 0) ∧ n - f ≤ cap' := by
  rcases Nat.eq_zero_or_pos n with h0 | h0
  · subst h0
    obtain rfl : f = 0 := by omega
    obtain rfl : zs = [] := List.eq_nil_of_length_eq_zero hr.1
    cases A with
    | none =>
      obtain rfl := hA rfl
      exact ⟨none, 0, run_none, RdI.nil w _, fun _ => rfl, by omega⟩
    | some a => exact ⟨some a, cap, run_zero a cap hm, RdI.nil w _, (fun h => by cases h), by omega⟩
  · obtain ⟨b, off, rfl, _⟩ := hr.2.2 h0
    refine ⟨_, _, run_from b off n cap f hf hn hm, ?_, (fun h => by cases h), by omega⟩
    exact hr.tail b off cap f hf hn rfl
set_option maxRecDepth 100000 in
set_option maxHeartbeats 3200000 in
theorem without_any (A : Option Addr) (n cap : Nat) (l : List Int) (x : Int) (w : World) (hr : RdI w A n l) (hn : n ≤ 1000) :
    Calls Tryz.prog 117 #[.slice A n cap, .int .i64 x] w fun e w' => ∃ v, e = .returned v ∧ OwnI w w' v (remN l x) := by
  obtain ⟨hvl, _, hc⟩ := id hr
  have HL := Lib.hid hvl
  have HC := Lib.hid hr
  have HT := Lib.hid (remN_take l x)
  have HLE := Lib.hid (fun k => Nat.le_trans (remN_len (l.take k) x) (show (l.take k).length ≤ l.length by rw [List.length_take]; omega))
  clear hvl hc hr
  go_enter Tryz.func117, Tryz.ntmps117
  go_wp2_with fail
  go_loopw [5, 10] (fun v i wr => ∃ k : Nat, k ≤ n ∧ i = .int .i64 k ∧ OwnI w wr v (remN (l.take k) x)) (fun _ i _ => n - (intOf i).toNat)
  case atStart => exact ⟨0, Nat.zero_le _, rfl, OwnI.nil _ _ (Below.refl _ _)⟩
  case round =>
    obtain ⟨k, hk, rfl, hO⟩ := hrel
    have HO := Lib.hid hO
    clear hO
    by_cases hlt : k < n
    · obtain ⟨b, off, rfl, hcell⟩ := (RdI.below HC.out HO.out.1).2.2 (by omega)
      have hc := hcell k hlt
      clear hcell
      have hle := HLE.out k
      rw [HL.out] at hle
      have HT1 := Lib.hid (HT.out k (by rw [HL.out]; exact hlt))
      generalize l.getD k 0 = y at *
      have j1 : (k : Int) < (n : Int) := by omega
      have j0 : (0 : Int) ≤ (k : Int) := by omega
      generalize hrr : remN (l.take k) x = rr at *
      by_cases hxy : y = x
      · have q1 : (y != x) = false := by simpa using hxy
        have HT2 := Lib.hid (show remN (l.take (k + 1)) x = rr by rw [HT1.out, if_pos hxy]; simp)
        go_wp2_with fail
        go_roundw
        case rel => exact ⟨k + 1, by omega, by go_num, by rw [HT2.out]; exact HO.out⟩
        case measure => simp [intOf]; omega
      · have q1 : (y != x) = true := by simpa using hxy
        have HT2 := Lib.hid (show remN (l.take (k + 1)) x = rr ++ [y] by rw [HT1.out, if_neg hxy])
        have HO2 := Lib.hid (HO.out.below (alloc_below wr (.cells #[.int .i64 y] 3)))
        go_wp2_with (at_builtin; refine wpList_append_ints rfl _ _ rfl w _ rr rfl HO2.out _ 1 1 [y] rfl (fun h => by cases h) (rdI_one wr y) (by omega) ?_; intro v3 w3 hO3 _; have HO3 := Lib.hid hO3; clear hO3)
        go_roundw
        case rel => exact ⟨k + 1, by omega, by go_num, by rw [HT2.out]; exact HO3.out⟩
        case measure => simp [intOf]; omega
    · obtain rfl : k = n := by omega
      have HF := Lib.hid (show remN (l.take k) x = remN l x by rw [← HL.out, List.take_length])
      rw [HF.out] at HO
      go_wp2
      go_ret
      exact ⟨_, rfl, HO.out⟩
set_option maxRecDepth 100000 in
set_option maxHeartbeats 3200000 in
theorem refwithout_any (A : Option Addr) (n cap : Nat) (l : List Int) (x : Int) (w : World) (hr : RdI w A n l) (hn : n ≤ 1000) :
    Calls Tryz.prog 224 #[.slice A n cap, .int .i64 x] w fun e w' => ∃ v, e = .returned v ∧ OwnI w w' v (remN l x) := by
  obtain ⟨hvl, _, hc⟩ := id hr
  have HL := Lib.hid hvl
  have HC := Lib.hid hr
  have HT := Lib.hid (remN_take l x)
  have HLE := Lib.hid (fun k => Nat.le_trans (remN_len (l.take k) x) (show (l.take k).length ≤ l.length by rw [List.length_take]; omega))
  clear hvl hc hr
  go_enter Tryz.func224, Tryz.ntmps224
  go_wp2_with fail
  go_loopw [5, 6] (fun v i wr => ∃ k : Nat, k ≤ n ∧ i = .int .i64 k ∧ OwnI w wr v (remN (l.take k) x)) (fun _ i _ => n - (intOf i).toNat)
  case atStart => exact ⟨0, Nat.zero_le _, rfl, OwnI.nil _ _ (Below.refl _ _)⟩
  case round =>
    obtain ⟨k, hk, rfl, hO⟩ := hrel
    have HO := Lib.hid hO
    clear hO
    by_cases hlt : k < n
    · obtain ⟨b, off, rfl, hcell⟩ := (RdI.below HC.out HO.out.1).2.2 (by omega)
      have hc := hcell k hlt
      clear hcell
      have hle := HLE.out k
      rw [HL.out] at hle
      have HT1 := Lib.hid (HT.out k (by rw [HL.out]; exact hlt))
      generalize l.getD k 0 = y at *
      have j1 : (k : Int) < (n : Int) := by omega
      have j0 : (0 : Int) ≤ (k : Int) := by omega
      generalize hrr : remN (l.take k) x = rr at *
      by_cases hxy : y = x
      · have q1 : (y != x) = false := by simpa using hxy
        have HT2 := Lib.hid (show remN (l.take (k + 1)) x = rr by rw [HT1.out, if_pos hxy]; simp)
        go_wp2_with fail
        go_roundw
        case rel => exact ⟨k + 1, by omega, by go_num, by rw [HT2.out]; exact HO.out⟩
        case measure => simp [intOf]; omega
      · have q1 : (y != x) = true := by simpa using hxy
        have HT2 := Lib.hid (show remN (l.take (k + 1)) x = rr ++ [y] by rw [HT1.out, if_neg hxy])
        have HO2 := Lib.hid (HO.out.below (alloc_below wr (.cells #[.int .i64 y] 3)))
        go_wp2_with (at_builtin; refine wpList_append_ints rfl _ _ rfl w _ rr rfl HO2.out _ 1 1 [y] rfl (fun h => by cases h) (rdI_one wr y) (by omega) ?_; intro v3 w3 hO3 _; have HO3 := Lib.hid hO3; clear hO3)
        go_roundw
        case rel => exact ⟨k + 1, by omega, by go_num, by rw [HT2.out]; exact HO3.out⟩
        case measure => simp [intOf]; omega
    · obtain rfl : k = n := by omega
      have HF := Lib.hid (show remN (l.take k) x = remN l x by rw [← HL.out, List.take_length])
      rw [HF.out] at HO
      go_wp2
      go_ret
      exact ⟨_, rfl, HO.out⟩
end Go.Proofs.YtnhcbampojpgfaaGreat.Qu
