/-
  Layer 8: much: few entries in all, if it is false. Conditions: the steps can be read.
-/
import Derived.Test.YtimplhdliaggfaaRlgOpn
namespace Go.Proofs.Ytimplhdliaggfaa.Rg
open Go.RowKit Go.Proofs.Ytimplhdliaggfaa.Fld
set_option linter.unusedVariables false

def sumN (l : List Stp) : Nat := (l.map Stp.n).sum
theorem sumN_take (l : List Stp) (k : Nat) (h : k < l.length) : sumN (l.take (k + 1)) = sumN (l.take k) + l[k].n := by
  unfold sumN
  rw [List.take_add_one, List.getElem?_eq_getElem h, List.map_append, List.sum_append]
  simp only [Option.toList_some, List.map_cons, List.map_nil, List.sum_cons, List.sum_nil, Nat.add_zero]
theorem sumN_mono (l : List Stp) (j k : Nat) (h : j ≤ k) : sumN (l.take j) ≤ sumN (l.take k) := by
  unfold sumN
  rw [← List.take_append_drop j (l.take k), List.take_take, Nat.min_eq_left h]
  simp
def MuchIs (l : List Stp) (w : World) (e : Ending) (w' : World) : Prop := ∃ b, e = .returned (.bool b) ∧ w = w' ∧ (b = false → ∀ k, k ≤ l.length → k ≤ 100 → sumN (l.take k) ≤ 5000)
theorem MuchIs.yes (l : List Stp) (w : World) : MuchIs l w (.returned (.bool true)) w := ⟨true, rfl, rfl, fun h => by cases h⟩
set_option maxRecDepth 100000 in
set_option maxHeartbeats 3200000 in
theorem much_any (A : Option Addr) (n cap : Nat) (l : List Stp) (w : World) (hr : RdSt w A n l) : Calls Try.prog 6 #[.slice A n cap] w (MuchIs l w) := by
  have HR := Lib.hid hr
  have HL := Lib.hid hr.1
  have hm := hr.2.1
  unfold maxLen at hm
  clear hr
  go_enter Try.func6, Try.ntmps6
  go_wp2
  go_loop [3, 4, 5] (fun nv iv _ => ∃ (i : Nat) (N : Int), i ≤ n ∧ i ≤ 100 ∧ iv = .int .i64 i ∧ nv = .int .i64 N ∧ (sumN (l.take i) : Int) ≤ N ∧ 0 ≤ N ∧ N ≤ 5000) (fun _ iv _ => 100 - (intOf iv).toNat)
  case atStart => exact ⟨0, 0, Nat.zero_le _, by omega, rfl, rfl, by simp [sumN], Int.le_refl _, by omega⟩
  case round =>
    obtain ⟨i, N, hin, hi1, rfl, rfl, hs, hn0, hn5⟩ := hrel
    have HS := Lib.hid hs
    clear hs
    have HEND := Lib.hid (show ∀ k, k ≤ i → sumN (l.take k) ≤ 5000 from fun k hk => by have := sumN_mono l k i hk; have := HS.out; omega)
    by_cases h1 : i < n
    rotate_left
    · have HFIN := Lib.hid (show MuchIs l w (.returned (.bool false)) w from ⟨false, rfl, rfl, fun _ k hk _ => HEND.out k (by have := HL.out; omega)⟩)
      go_wp2
      go_ret
      exact HFIN.out
    by_cases h2 : i < 100
    rotate_left
    · have HFIN := Lib.hid (show MuchIs l w (.returned (.bool false)) w from ⟨false, rfl, rfl, fun _ k hk hk2 => HEND.out k (by omega)⟩)
      go_wp2
      go_ret
      exact HFIN.out
    have hil : i < l.length := by have := HL.out; omega
    obtain ⟨b, off, rfl, hc⟩ := HR.out.at4 (Below.refl _ _) i hil
    have c3 := hc 3 (.slice l[i].A l[i].n l[i].c) (by omega) rfl
    have HX := Lib.hid (HR.out.2.2.2 _ (List.getElem_mem hil))
    have HSU := Lib.hid (sumN_take l i hil)
    clear hc
    generalize l[i] = x at *
    obtain ⟨d, I, T, XA, xn, xc, ls⟩ := x
    simp only at c3 HSU
    have k0 : (0 : Int) ≤ (i : Int) := by omega
    have k1 : (i : Int) < (n : Int) := by omega
    have k2 : (i : Int) < 100 := by omega
    by_cases h3 : 5000 < xn
    · have k3 : (5000 : Int) < (xn : Int) := by omega
      go_wp2
      go_ret
      exact MuchIs.yes _ _
    have k3 : ¬ (5000 : Int) < (xn : Int) := by omega
    go_wp2_with fail
    go_loop [3, 5] (fun nv kv => ∃ (k : Nat) (M : Int), k ≤ xn ∧ kv = .int .i64 k ∧ nv = .int .i64 M ∧ N + xn ≤ M ∧ M ≤ 20000) (fun _ kv => xn - (intOf kv).toNat)
    case atStart => exact ⟨0, N + xn, Nat.zero_le _, rfl, rfl, Int.le_refl _, by omega⟩
    case round =>
      obtain ⟨k, M, hk, rfl, rfl, hM1, hM2⟩ := hrel
      by_cases h4 : k < xn ∧ M < 10000
      · obtain ⟨h4, h5⟩ := h4
        obtain ⟨zb, zoff, rfl, q0, q1, q2, q3⟩ := HX.out.rd.elem k h4
        clear q0 q1 q2
        have HDD := Lib.hid (HX.out.rd.data k h4).1.2.1
        generalize (ls.getD k ea0).e.data.length = D at *
        generalize (ls.getD k ea0).A = DA at *
        generalize (ls.getD k ea0).cap = dc at *
        have hdm := HDD.out
        unfold maxLen at hdm
        have m0 : (0 : Int) ≤ (k : Int) := by omega
        have m1 : (k : Int) < (xn : Int) := by omega
        obtain ⟨Q, hQ⟩ : ∃ Q : Int, (D : Int) / 100 = Q := ⟨_, rfl⟩
        have HQ := Lib.hid hQ
        have hQ0 : 0 ≤ Q := by omega
        have hQm : Q ≤ 92233720368547759 := by omega
        by_cases h6 : ¬ 10000 < Q
        · go_wp2
          all_goals
            go_round
            case rel => exact ⟨k + 1, M + Q, by omega, by go_num, by first | rfl | (rw [← HQ.out]), by omega, by omega⟩
            case measure => simp [intOf]; omega
        · go_wp2
          all_goals
            go_round
            case rel => exact ⟨k + 1, M + 10000, by omega, by go_num, rfl, by omega, by omega⟩
            case measure => simp [intOf]; omega
      · have hex : (¬ k < xn) ∨ (k < xn ∧ ¬ M < 10000) := by omega
        clear h4
        by_cases h6 : 5000 < M
        · rcases hex with h4 | ⟨h4, h5⟩
          all_goals
            go_wp2
            go_ret
            exact MuchIs.yes _ _
        · have h8 : ¬ k < xn := by omega
          clear hex
          go_wp2
          go_round
          case rel => exact ⟨i + 1, M, by omega, by omega, by go_num, rfl, by rw [HSU.out]; have := HS.out; omega, by omega, by omega⟩
          case measure => simp [intOf]; omega
end Go.Proofs.Ytimplhdliaggfaa.Rg
