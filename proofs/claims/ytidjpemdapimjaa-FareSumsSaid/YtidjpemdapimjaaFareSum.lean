/-
  What the function Sum of package fare, and the document's own, answer for whatever they are called with: the sum of the floats, one behind the other; where it is no number, some float that is none. Conditions: as each theorem states.
-/
import Derived.Test.YtidjpemdapimjaaFareOpen
import Derived.WalkSmall
import Derived.Deep.Draws
import Derived.Great.BuildSlice
namespace Go.Proofs.Ytidjpemdapimjaa.Fr
open Go.RowKit

/-- One float more; none: it is no number. -/
def stepO (o : Option Nat) (f : Nat) : Option Nat := match o with | some a => Ieee.double.add a f | none => none
def fsum (l : List Nat) : Option Nat := l.foldl stepO (some 0)
/-- The float b is that sum. -/
def IsSum (o : Option Nat) (b : Nat) : Prop := (∀ r, o = some r → b = r) ∧ (o = none → nn b = true)

theorem add_nan (b f : Nat) (h : nn b = true) : Ieee.double.add b f = none := by
  obtain ⟨g, e⟩ := read_nan b (by simpa [nn] using h)
  unfold Ieee.Format.add
  rw [e]
  rfl
theorem nan_bits (t : Nat) : nn ((t % 2) * 2 ^ 63 + 0x7ff0000000000000 + 1 + (t / 2) % (2 ^ 52 - 1)) = true := by
  have h1 : t % 2 = 0 ∨ t % 2 = 1 := by omega
  have h2 : (t / 2) % (2 ^ 52 - 1) < 2 ^ 52 - 1 := Nat.mod_lt _ (by decide)
  generalize (t / 2) % (2 ^ 52 - 1) = r at *
  generalize t % 2 = s at *
  unfold nn rg top
  rcases h1 with rfl | rfl
  · simp
    omega
  · simp
    omega
theorem add_step (o : Option Nat) (b f : Nat) (h : IsSum o b) (w : World) : ∃ c k, (binOp .add 22 (.float .f64 b) (.float .f64 f)).run Try.prog w = .ok (.float .f64 c) (w.drewN k) ∧ IsSum (stepO o f) c := by
  cases hb : Ieee.double.add b f with
  | some r =>
    refine ⟨r, 0, run_float_arith w .add 22 .f64 b f r hb, ?_⟩
    cases o with
    | none => rw [add_nan b f (h.2 rfl)] at hb; cases hb
    | some a =>
      obtain rfl := h.1 a rfl
      unfold stepO
      simp only [hb]
      exact ⟨fun r' hr => by cases hr; rfl, fun hh => by cases hh⟩
  | none =>
    refine ⟨(w.tape w.drawn (.nanBits .f64 b f) % 2) * 2 ^ 63 + 0x7ff0000000000000 + 1 + (w.tape w.drawn (.nanBits .f64 b f) / 2) % (2 ^ 52 - 1), 1, ?_, ?_, ?_⟩
    · have hb' : FloatKind.f64.format.add b f = none := hb
      simp [binOp, Op.floatArith, hb', Question.forced, Question.cut]
      rfl
    · intro r hr
      exfalso
      cases o with
      | none => cases hr
      | some a =>
        obtain rfl := h.1 a rfl
        unfold stepO at hr
        simp only [hb] at hr
        cases hr
    · exact fun _ => nan_bits _

theorem fsum_snoc (l : List Nat) (f : Nat) : fsum (l ++ [f]) = stepO (fsum l) f := by simp [fsum]
theorem take_snoc (l : List Nat) (k : Nat) (h : k < l.length) : l.take (k + 1) = l.take k ++ [l.getD k 0] := by
  rw [List.take_succ_eq_append_getElem h]
  simp [List.getD_eq_getElem?_getD, h]

def Summed (w : World) (zs : List Nat) (e : Ending) (w' : World) : Prop := ∃ b m, e = .returned (.float .f64 b) ∧ IsSum (fsum zs) b ∧ w' = w.drewN m
def SumR (w : World) (zs : List Nat) (n : Nat) (t i : Value) (wr : World) : Prop := ∃ b k m, t = .float .f64 b ∧ i = .int .i64 ((k : Nat) : Int) ∧ k ≤ n ∧ IsSum (fsum (zs.take k)) b ∧ wr = w.drewN m

set_option maxHeartbeats 800000 in
theorem sum_any (A : Option Addr) (n cap : Nat) (zs : List Nat) (w : World) (hr : RdF w A n zs) : Calls Try.prog 23 #[.slice A n cap] w (Summed w zs) := by
  obtain ⟨hl, hm, hc⟩ := hr
  unfold maxLen at hm
  have HL := Lib.hid hl
  have HC := Lib.hid hc
  clear hl hc
  go_enter Try.func23, Try.ntmps23
  go_wp2
  go_loopw [3, 8] (fun t i wr => SumR w zs n t i wr) (fun _ i _ => n - (intOf i).toNat)
  case atStart => exact ⟨0, 0, 0, rfl, rfl, Nat.zero_le _, ⟨fun r hr => by cases hr; rfl, fun h => by cases h⟩, rfl⟩
  case round =>
    obtain ⟨b, k, m, rfl, rfl, hk, hS, rfl⟩ := hrel
    have HS := Lib.hid hS
    clear hS
    by_cases hlt : k < n
    · obtain ⟨B, off, rfl, hcell⟩ := HC.out (by omega)
      have hc := hcell k hlt
      clear hcell
      obtain ⟨c, d, hadd, hS2⟩ := add_step _ b (zs.getD k 0) HS.out (w.drewN m)
      rw [← fsum_snoc, ← take_snoc zs k (by rw [HL.out]; exact hlt)] at hS2
      have HS2 := Lib.hid hS2
      clear hS2
      generalize zs.getD k 0 = f at *
      go_wp2
      go_roundw
      case rel => exact ⟨c, k + 1, m + d, rfl, by go_num, by omega, HS2.out, by simp⟩
      case measure => simp [intOf]; omega
    · obtain rfl : k = n := by omega
      have hz := HS.out
      rw [← HL.out, List.take_length] at hz
      have HZ := Lib.hid hz
      clear hz
      go_wp2
      go_ret
      exact ⟨b, m, rfl, HZ.out, rfl⟩
end Go.Proofs.Ytidjpemdapimjaa.Fr
