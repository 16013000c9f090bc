/-
  What the document's own Same answers for two lists of bytes that are the same: true. Conditions: the lists can be read.
-/
import Derived.Test.YtlppcbmhbpefaaaRecRdL
import Derived.Test.YtlppcbmhbpefaaaRecScan
import Derived.Deep.QuietTactic
import Derived.BigQuiet
namespace Go.Proofs.Ytlppcbmhbpefaaa.Rc
open Go.RowKit
open Fld (Bytes val Rd RdL conv_str str)
set_option linter.unusedVariables false

theorem rows_rdl {w wr : World} {v : Value} {ts : List (List Int)} (h : Rows w wr v ts) (hm : ts.length ≤ maxLen) : ∃ B cap, v = .slice B ts.length cap ∧ RdL wr B ts.length ts ∧ ts.length ≤ cap ∧ (B = none → cap = 0) := by
  obtain ⟨vs, ⟨h1, h2⟩, he⟩ := h
  rcases h2 with ⟨rfl, h0⟩ | ⟨g, cap, cur, rfl, hg, hh, hnc, hcm, hcs, hcu⟩
  · exact ⟨none, 0, by rw [h0], ⟨rfl, hm, fun hp => by omega⟩, by omega, fun _ => rfl⟩
  · refine ⟨_, cap, rfl, ⟨rfl, hm, fun hp => ⟨g, 0, rfl, fun i hi => ?_⟩⟩, hnc, fun h => by cases h⟩
    obtain ⟨A, n, c, e1, e2, e3, _⟩ := he i hi
    refine ⟨A, n, c, ?_, e2, e3⟩
    rw [Nat.zero_add, cell_of_row wr g i cur _ (0, 0) hh, ← e1, ← hcu, List.getElem?_take, if_pos (by omega), Array.getElem?_toList]
theorem rdl_drewN {w : World} {B : Option Addr} {m : Nat} {ls : List (List Int)} (h : RdL w B m ls) (k : Nat) : RdL (w.drewN k) B m ls := h.below ⟨rfl, rfl, rfl, Nat.le_refl _, fun _ _ => rfl⟩
theorem rdl_at {w : World} {B : Option Addr} {m : Nat} {ls : List (List Int)} (h : RdL w B m ls) (i : Nat) (hi : i < m) : ∃ b off A n c, B = some ⟨b, off, none⟩ ∧ w.cell? ⟨b, off + i, none⟩ = some (.slice A n c) ∧ Rd w A n (ls.getD i []) ∧ (A = none → c = 0) := by
  obtain ⟨b, off, e, hc⟩ := h.2.2 (by omega)
  obtain ⟨A, n, c, h1, h2, h3⟩ := hc i hi
  exact ⟨b, off, A, n, c, e, h1, h2, h3⟩
theorem drew_add (w : World) (a b : Nat) : (w.drewN a).drewN b = w.drewN (a + b) := by simp [World.drewN, Nat.add_assoc]
def SameR (w : World) (m : Nat) (i : Value) (wr : World) : Prop := ∃ k d : Nat, k ≤ m ∧ i = .int .i64 (k : Int) ∧ wr = w.drewN d
set_option maxHeartbeats 800000 in
theorem same_any (A B : Option Addr) (m c d : Nat) (ls : List (List Int)) (w : World) (hx : RdL w A m ls) (hy : RdL w B m ls) :
    Calls Try.prog 16 #[.slice A m c, .slice B m d] w fun e w' => e = .returned (.bool true) ∧ ∃ k, w' = w.drewN k := by
  have hm := hx.2.1
  unfold maxLen at hm
  have HX := Lib.hid hx
  have HY := Lib.hid hy
  clear hx hy
  have h0 : ((m : Int) != (m : Int)) = false := by simp
  go_enter Try.func16, Try.ntmps16
  go_wp2_with fail
  go_loopw [5] (fun i wr => SameR w m i wr) (fun i _ => m - (intOf i).toNat)
  case atStart => exact ⟨0, 0, by omega, rfl, rfl⟩
  case round =>
    obtain ⟨k, q, hk, rfl, rfl⟩ := hrel
    by_cases hlt : k < m
    · obtain ⟨b1, o1, A1, n1, c1, rfl, g1, r1, _⟩ := rdl_at (rdl_drewN HX.out q) k hlt
      obtain ⟨b2, o2, A2, n2, c2, rfl, g2, r2, _⟩ := rdl_at (rdl_drewN HY.out q) k hlt
      have q1 := fun i => conv_str (r1.drewN i) c1
      have q2 := fun i => conv_str (r2.drewN i) c2
      clear r1 r2
      generalize hw1 : w.drewN q = w1 at *
      have HW1 := Lib.hid hw1
      clear hw1
      have hss : ((str (ls.getD k [])).toList != (str (ls.getD k [])).toList) = false := by simp
      generalize str (ls.getD k []) = s at *
      have j1 : (k : Int) < (m : Int) := by omega
      have j0 : (0 : Int) ≤ (k : Int) := by omega
      go_wp2_with fail
      go_quiet (fail)
      clear q1 q2 g1 g2
      have HW2 := Lib.hid (show w1.drewN nq = w.drewN (q + nq) by rw [← HW1.out, drew_add])
      go_wp2
      go_roundw
      case rel => exact ⟨k + 1, q + nq, by omega, by go_num, HW2.out⟩
      case measure => simp [intOf]; omega
    · obtain rfl : k = m := by omega
      go_wp2
      go_ret
      exact ⟨rfl, q, rfl⟩
end Go.Proofs.Ytlppcbmhbpefaaa.Rc
