/-
  Acts in memory (RdA), and that the law's own question how much they hold is answered. Conditions: the acts can be read.
-/
import Derived.Test.YthdpdhjhpbkhaaaDiskSn
namespace Go.Proofs.Ythdpdhjhpbkhaaa.Dk
open Go.RowKit Go.Proofs.Ythdpdhjhpbkhaaa.Fld

/-- an act, with where its bytes and its numbers lie -/
structure Acc where
  d : Int
  nm : ByteArray
  to : ByteArray
  n : Int
  BA : Option Addr
  bn : Nat
  bc : Nat
  bs : List Int
  KA : Option Addr
  kn : Nat
  kc : Nat
  ks : List Int
def Acc.cells (a : Acc) : List Value := [.int .i64 a.d, .string a.nm, .string a.to, .int .i64 a.n, .slice a.BA a.bn a.bc, .slice a.KA a.kn a.kc]
structure Acc.Ok (w : World) (a : Acc) : Prop where
  nm : a.nm.size ≤ maxLen
  to : a.to.size ≤ maxLen
  n : a.n ≤ 9223372036854775807
  b : Rd w a.BA a.bn a.bs
  bz : a.BA = none → a.bc = 0
  k : RdI w a.KA a.kn a.ks
/-- a slice of acts -/
def RdA (w : World) (A : Option Addr) (n : Nat) (l : List Acc) : Prop :=
  l.length = n ∧ n ≤ maxLen ∧ (0 < n → ∃ b off, A = some ⟨b, off, none⟩ ∧ ∀ i (h : i < l.length) j, j < 6 → w.cell? ⟨b, off + i * 6 + j, none⟩ = l[i].cells[j]?) ∧ ∀ a ∈ l, a.Ok w
theorem RdA.at6 {w : World} {A : Option Addr} {n : Nat} {l : List Acc} (h : RdA w A n l) (k : Nat) (hk : k < l.length) : ∃ b off, A = some ⟨b, off, none⟩ ∧ w.cell? ⟨b, off + k * 6, none⟩ = some (.int .i64 l[k].d) ∧ w.cell? ⟨b, off + k * 6 + 1, none⟩ = some (.string l[k].nm) ∧
    w.cell? ⟨b, off + k * 6 + 2, none⟩ = some (.string l[k].to) ∧ w.cell? ⟨b, off + k * 6 + 3, none⟩ = some (.int .i64 l[k].n) ∧ w.cell? ⟨b, off + k * 6 + 4, none⟩ = some (.slice l[k].BA l[k].bn l[k].bc) ∧ w.cell? ⟨b, off + k * 6 + 5, none⟩ = some (.slice l[k].KA l[k].kn l[k].kc) := by
  obtain ⟨b, off, hA, hc⟩ := h.2.2.1 (by have := h.1; omega)
  exact ⟨b, off, hA, hc k hk 0 (by omega), hc k hk 1 (by omega), hc k hk 2 (by omega), hc k hk 3 (by omega), hc k hk 4 (by omega), hc k hk 5 (by omega)⟩
/-- some truth value, and nothing has changed; if it is false, no act of the first 300 has too many bytes -/
def IsB (l : List Acc) (w : World) (e : Ending) (w' : World) : Prop := ∃ B, e = .returned (.bool B) ∧ w = w' ∧ (B = false → ∀ j (h : j < l.length), j < 300 → l[j].bn ≤ 100000)
def MR (n : Nat) (l : List Acc) (x i : Value) : Prop := ∃ (k : Nat) (y : Int), k ≤ n ∧ i = .int .i64 (k : Int) ∧ x = .int .i64 y ∧ 0 ≤ y ∧ y ≤ 200000 ∧ ∀ j (h : j < l.length), j < k → l[j].bn ≤ 100000
set_option maxRecDepth 100000 in
set_option maxHeartbeats 3200000 in
theorem much_any (A : Option Addr) (n cap : Nat) (l : List Acc) (w : World) (h : RdA w A n l) : Calls Try.prog 12 #[.slice A n cap] w (IsB l w) := by
  have HI := Lib.hid h
  have hn := h.2.1
  have HL := Lib.hid h.1
  unfold maxLen at hn
  clear h
  go_enter Try.func12, Try.ntmps12
  go_wp2
  go_loop [3, 4] (fun x i => MR n l x i) (fun _ i => n - (intOf i).toNat)
  case atStart => exact ⟨0, 0, Nat.zero_le _, rfl, rfl, by omega, by omega, fun j h hj => by omega⟩
  case round =>
    obtain ⟨k, y, hk, rfl, rfl, hy0, hy1, hall⟩ := hrel
    have HA := Lib.hid hall
    clear hall
    by_cases hlt : k < n
    · obtain ⟨b, off, rfl, c0, c1, c2, c3, c4, c5⟩ := HI.out.at6 k (by rw [HL.out]; exact hlt)
      have hkl : k < l.length := by rw [HL.out]; exact hlt
      have HA2 := Lib.hid (show l[k].bn ≤ 100000 → ∀ j (h : j < l.length), j < k + 1 → l[j].bn ≤ 100000 from fun hb j h hj => by
        rcases Nat.lt_or_eq_of_le (Nat.le_of_lt_succ hj) with h1 | h1
        · exact HA.out j h h1
        · subst h1; exact hb)
      clear c0 c3 c5
      generalize l[k] = a at *
      clear hkl
      obtain ⟨d, nm, to, an, BA, bn, bc, bs, KA, kn, kc, ks⟩ := a
      simp only at c1 c2 c4 HA2
      have hw : bn ≤ 100000 → wrap64 (y + (bn : Int)) = y + (bn : Int) := fun h => wrap64_in _ (by omega) (by omega)
      by_cases h300 : k < 300
      · by_cases hb1 : 100000 < bn
        · have d1 : decide ((100000 : Int) < (bn : Int)) = true := by simp; omega
          go_wp2
          go_ret
          exact ⟨true, rfl, rfl, fun h => by cases h⟩
        · have d1 : decide ((100000 : Int) < (bn : Int)) = false := by simp; omega
          have hw1 := hw (by omega)
          by_cases hb2 : 1000 < nm.size
          · have d2 : decide ((1000 : Int) < (nm.size : Int)) = true := by simp; omega
            go_wp2
            go_ret
            exact ⟨true, rfl, rfl, fun h => by cases h⟩
          · have d2 : decide ((1000 : Int) < (nm.size : Int)) = false := by simp; omega
            by_cases hb3 : 1000 < to.size
            · have d3 : decide ((1000 : Int) < (to.size : Int)) = true := by simp; omega
              go_wp2
              go_ret
              exact ⟨true, rfl, rfl, fun h => by cases h⟩
            · have d3 : decide ((1000 : Int) < (to.size : Int)) = false := by simp; omega
              by_cases hb4 : 200000 < y + (bn : Int)
              · go_wp2
                go_ret
                exact ⟨true, rfl, rfl, fun h => by cases h⟩
              · go_wp2
                go_roundw
                case rel => exact ⟨k + 1, y + (bn : Int), by omega, by go_num, rfl, by omega, by omega, HA2.out (by omega)⟩
                case measure => simp [intOf]; omega
      · have d1 : decide ((k : Int) < 300) = false := by simp; omega
        go_wp2
        go_ret
        exact ⟨false, rfl, rfl, fun _ j h hj => HA.out j h (by omega)⟩
    · obtain rfl : k = n := by omega
      go_wp2
      go_ret
      exact ⟨false, rfl, rfl, fun _ j h _ => HA.out j h (by rw [← HL.out]; exact h)⟩
end Go.Proofs.Ythdpdhjhpbkhaaa.Dk
