/-
  Layer 8: SameEntries, where the entries are the same. Conditions: the lists can be read.
-/
import Derived.Test.YtimplhdliaggfaaRlgD
namespace Go.Proofs.Ytimplhdliaggfaa.Rg
open Go.RowKit Go.Proofs.Ytimplhdliaggfaa.Fld
set_option linter.unusedVariables false

set_option maxRecDepth 100000 in
set_option maxHeartbeats 3200000 in
theorem same_yes (A : Option Addr) (n cap : Nat) (xs : List EA) (B : Option Addr) (m cap' : Nat) (ys : List EA) (w : World) (hr : RdE w A n xs) (hr' : RdE w B m ys) (he : ens xs = ens ys) : Calls Try.prog 13 #[.slice A n cap, .slice B m cap'] w fun e w' => e = .returned (.bool true) ∧ Still w w' := by
  have HR := Lib.hid hr
  have HS := Lib.hid hr'
  have hnm : m = n := by rw [← hr.len, ← hr'.len, ← ens_len, ← ens_len, he]
  subst hnm
  have HLX := Lib.hid hr.len
  have HLY := Lib.hid hr'.len
  have HE := Lib.hid he
  have hm := hr.most
  unfold maxLen at hm
  clear hr hr' he
  go_enter Try.func13, Try.ntmps13
  go_wp2
  go_loopw [5] (fun i wr => ∃ k : Nat, k ≤ m ∧ i = .int .i64 k ∧ Still w wr) (fun i _ => m - (intOf i).toNat)
  case atStart => exact ⟨0, Nat.zero_le _, rfl, Still.refl _⟩
  case round =>
    obtain ⟨k, hk, rfl, hst⟩ := hrel
    have HST := Lib.hid hst
    clear hst
    by_cases hlt : k < m
    · obtain ⟨b, off, rfl, q0, q1, q2, q3⟩ := (HR.out.still HST.out).elem k hlt
      obtain ⟨b', off', rfl, p0, p1, p2, p3⟩ := (HS.out.still HST.out).elem k hlt
      have hex : (xs.getD k ea0).e = (ys.getD k ea0).e := by
        rw [← ens_at xs k (by have := HLX.out; omega), ← ens_at ys k (by have := HLY.out; omega), HE.out]
      have hd1 := ((HR.out.still HST.out).data k hlt).1
      have hd2 := ((HS.out.still HST.out).data k hlt).1
      rw [hex] at q0 q1 q2 q3 hd1
      have HD1 := Lib.hid (fun (j : Nat) => conv_str (hd1.drewN j) (xs.getD k ea0).cap)
      have HD2 := Lib.hid (fun (j : Nat) => conv_str (hd2.drewN j) (ys.getD k ea0).cap)
      clear hex hd1 hd2
      generalize (xs.getD k ea0).A = XA at *
      generalize (xs.getD k ea0).cap = xc at *
      generalize (ys.getD k ea0).A = YA at *
      generalize (ys.getD k ea0).cap = yc at *
      generalize (ys.getD k ea0).e = e at *
      obtain ⟨idx, term, kind, data⟩ := e
      simp only at q0 q1 q2 q3 p0 p1 p2 p3 HD1 HD2
      have t1 := str_same data
      generalize data.length = D at *
      generalize str data = S at *
      have k0 : (0 : Int) ≤ (k : Int) := by omega
      have k1 : (k : Int) < (m : Int) := by omega
      have s0 : (idx == idx) = true := by simp
      have s1 : (term == term) = true := by simp
      have s2 : (kind == kind) = true := by simp
      have c1 := HD1.out
      have c2 := HD2.out
      go_wp2_with fail
      go_quiet (fail)
      go_wp2
      go_roundw
      case rel => exact ⟨k + 1, by omega, by go_num, HST.out.trans (still_drewN _ _)⟩
      case measure => simp [intOf]; omega
    · obtain rfl : k = m := by omega
      go_wp2
      go_ret
      exact ⟨rfl, HST.out⟩
end Go.Proofs.Ytimplhdliaggfaa.Rg
