/-
  Layer 14, the program's own: changed; the closure of rooms. Conditions: as each theorem states.
-/
import Derived.Test.YtofbioefckdmbaaNeB
namespace Go.Proofs.Ytofbioefckdmbaa.Ne
open Go.RowKit Go.Proofs.Ytofbioefckdmbaa.Qu Go.Proofs.Ytofbioefckdmbaa.Fld
set_option linter.unusedVariables false

theorem OwnI.some {w0 w : World} {v : Value} {l : List Int} (h : OwnI w0 w v l) (hl : 0 < l.length) : ∃ g cap, v = .slice (Option.some ⟨g, 0, Option.none⟩) l.length cap := by
  obtain ⟨h0, h1, h2⟩ := h
  rcases h2 with ⟨h3, h4⟩ | ⟨g', cap', cur, he, _⟩
  · omega
  · exact ⟨g', cap', he⟩
set_option maxRecDepth 100000 in
set_option maxHeartbeats 1600000 in
theorem changed_any (A : Option Addr) (n cap : Nat) (S : List Int) (w : World) (hr : RdI w A n S) (hn : n ≤ 8) (c : Nat) (hc : c < n) (d : Int) (hd : -9223372036854775808 ≤ S.getD c 0 + d ∧ S.getD c 0 + d ≤ 9223372036854775807) :
    Calls Try.prog 32 #[.slice A n cap, .int .i64 (c : Int), .int .i64 d] w (NewI w (addA S c d)) := by
  have HCL := Lib.hid (cloneI_any A n cap S w hr (by omega))
  have hl := hr.1
  have HA := Lib.hid (show addA S c d = S.set c (S.getD c 0 + d) from rfl)
  have HL := Lib.hid hl
  clear hr hl
  go_enter Try.func32, Try.ntmps32
  go_wp2_with fail
  refine HCL.out.mono ?_
  rintro e w1 ⟨v, rfl, ho⟩
  obtain ⟨g, cp, rfl⟩ := Ne.OwnI.some ho (by have := HL.out; omega)
  obtain ⟨q1, q2, q3⟩ := Ne.OwnI.put ho (i := c) (by have := HL.out; omega) (S.getD c 0 + d)
  have HO := Lib.hid q3
  rw [HL.out] at *
  generalize S.getD c 0 = y at *
  have c0 : (0 : Int) ≤ (c : Int) := by omega
  have c1 : (c : Int) < (n : Int) := by omega
  clear q3 ho
  go_wp2
  go_ret
  exact ⟨_, rfl, by rw [HA.out]; exact HO.out⟩
set_option maxRecDepth 100000 in
set_option maxHeartbeats 1600000 in
theorem room1_any (T SB LB : Nat) (A : Option Addr) (n cap : Nat) (L : List Int) (B : Option Addr) (m cap2 : Nat) (S : List Int) (tot : Int) (k : Nat) (w : World) (hT : Blk w T #[.int .i64 tot] 3) (hS : Blk w SB #[.slice B m cap2] 24) (hL : Blk w LB #[.slice A n cap] 24)
    (ha : RdI w A n L) (hb : RdI w B m S) (haT : ∀ a, A = some a → a.block ≠ T) (hbT : ∀ a, B = some a → a.block ≠ T) (hTS : T ≠ SB) (hTL : T ≠ LB) (hk : k < n) (hk2 : k < m)
    (h1 : -9223372036854775808 ≤ tot + S.getD k 0 ∧ tot + S.getD k 0 ≤ 9223372036854775807) (h2 : -9223372036854775808 ≤ L.getD k 0 - (tot + S.getD k 0) ∧ L.getD k 0 - (tot + S.getD k 0) ≤ 9223372036854775807) :
    Calls Try.prog 34 #[.int .i64 (k : Int), .pointer (some ⟨T, 0, none⟩), .pointer (some ⟨SB, 0, none⟩), .pointer (some ⟨LB, 0, none⟩)] w fun e w' => e = .returned (.int .i64 (L.getD k 0 - (tot + S.getD k 0))) ∧ ∃ j, w' = (w.setCell ⟨T, 0, none⟩ (.int .i64 (tot + S.getD k 0))).drewN j := by
  obtain ⟨b, off, rfl, hca⟩ := ha.2.2 (by omega)
  obtain ⟨b2, off2, rfl, hcb⟩ := hb.2.2 (by omega)
  have hA := haT _ rfl
  have hB := hbT _ rfl
  have ca := hca k hk
  have cb := hcb k hk2
  have t0 := hT.cell 0 (.int .i64 tot) rfl
  have tf := hT.free 0
  have s0 := hS.cell 0 (.slice (some ⟨b2, off2, none⟩) m cap2) rfl
  have l0 := hL.cell 0 (.slice (some ⟨b, off, none⟩) n cap) rfl
  have k0 : (0 : Int) ≤ (k : Int) := by omega
  have k1 : (k : Int) < (n : Int) := by omega
  have k2 : (k : Int) < (m : Int) := by omega
  have HT := Lib.hid hT
  clear hca hcb ha hb haT hbT hT hS hL
  generalize L.getD k 0 = x at *
  generalize S.getD k 0 = y at *
  go_enter Try.func34, Try.ntmps34
  go_wp2
  go_region
  have HT2 := Lib.hid (show Blk (w.setCell ⟨T, 0, none⟩ (.int .i64 (tot + y))) T #[.int .i64 (tot + y)] 3 from Blk.set HT.out 0 _ (by show 0 < 1; omega))
  have d0 := HT2.out.cell 0 (.int .i64 (tot + y)) rfl
  have d1 : (w.setCell ⟨T, 0, none⟩ (.int .i64 (tot + y))).cell? ⟨LB, 0, none⟩ = some (.slice (some ⟨b, off, none⟩) n cap) := by rw [World.cell?_setCell_other _ _ _ _ (by simp)]; exact l0
  have d2 : (w.setCell ⟨T, 0, none⟩ (.int .i64 (tot + y))).cell? ⟨b, off + k, none⟩ = some (.int .i64 x) := by rw [World.cell?_setCell_other _ _ _ _ (by simp)]; exact ca
  clear t0 tf s0 l0 ca cb
  obtain ⟨W1, hW1⟩ : ∃ W1, w.setCell ⟨T, 0, none⟩ (.int .i64 (tot + y)) = W1 := ⟨_, rfl⟩
  rw [hW1] at d0 d1 d2 ⊢
  have e0 : W1.drew.cell? ⟨T, 0, none⟩ = some (.int .i64 (tot + y)) := d0
  have e1 : W1.drew.cell? ⟨LB, 0, none⟩ = some (.slice (some ⟨b, off, none⟩) n cap) := d1
  have e2 : W1.drew.cell? ⟨b, off + k, none⟩ = some (.int .i64 x) := d2
  obtain ⟨W2, hW2⟩ : ∃ W2, W1.drew = W2 := ⟨_, rfl⟩
  rw [hW2] at e0 e1 e2 ⊢
  have HW2 := Lib.hid hW2
  clear hW2 d0 d1 d2
  have HW1 := Lib.hid hW1
  clear hW1 HT2
  go_wp2_with fail
  go_quiet (fail)
  go_wp2
  go_ret
  exact ⟨rfl, 1 + nq, by rw [HW1.out, ← HW2.out, ← drew_add]; rfl⟩
end Go.Proofs.Ytofbioefckdmbaa.Ne
