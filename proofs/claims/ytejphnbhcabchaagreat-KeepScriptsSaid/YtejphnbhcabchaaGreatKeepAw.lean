/-
  Layer 7: the laws' first question ('awake'): a hard state is saved on a new disk and loaded as it was. No condition.
-/
import Derived.Test.YtejphnbhcabchaaGreatKeepOne
import Derived.Test.YtejphnbhcabchaaGreatKeepE
namespace Go.Proofs.YtejphnbhcabchaaGreat.Kp
open Go.RowKit Go.Proofs.YtejphnbhcabchaaGreat.Dk Go.Proofs.YtejphnbhcabchaaGreat.Fld
set_option linter.unusedVariables false

theorem okNew : okN (hardN ++ newE) = true := by decide
theorem okHard : okN hardN = true := by decide
theorem awake_write : ∃ s, stWrite hardN (Rc.recd (hardC 3 1)) (st0 1000) = (0, ⟨1000, [(hardN, Rc.recd (hardC 3 1), s)], false, none, none⟩) := by
  have hl : (Rc.recd (hardC 3 1)).length = 12 := by rw [Rc.recd_len]; decide +kernel
  generalize Rc.recd (hardC 3 1) = z at *
  refine ⟨z.length, ?_⟩
  have e1 : stAppend (hardN ++ newE) z (st0 1000) = (0, ⟨1000, [(hardN ++ newE, z, 0)], false, none, none⟩) := by
    unfold stAppend doing chg app1
    rw [okNew]
    simp [st0, total, hl, fget, Dk.get, fput, Dk.put, Dk.del, Dk.ins]
  have e2 : stSync (hardN ++ newE) ⟨1000, [(hardN ++ newE, z, 0)], false, none, none⟩ = (0, ⟨1000, [(hardN ++ newE, z, z.length)], false, none, none⟩) := by
    unfold stSync doing chg sync1
    rw [okNew]
    simp [fget, Dk.get, fput, Dk.put, Dk.del, Dk.ins]
  have e3 : stRename (hardN ++ newE) hardN ⟨1000, [(hardN ++ newE, z, z.length)], false, none, none⟩ = (0, ⟨1000, [(hardN, z, z.length)], false, none, none⟩) := by
    have hne : hardN ++ newE ≠ hardN := by decide
    have hb : (hardN ++ newE == hardN) = false := by decide
    have hb' : (hardN == hardN ++ newE) = false := by decide
    have hbb : bytesBefore hardN (hardN ++ newE) = true := by decide
    unfold stRename doing chg ren1
    rw [okNew, okHard]
    simp [fget, Dk.get, fput, fdel, Dk.put, Dk.del, Dk.ins, hne, hb, hb', hbb]
  unfold stWrite
  rw [show (fget (hardN ++ newE) (st0 1000).fs).isSome = false from rfl]
  show wr3 hardN z (st0 1000) = _
  unfold wr3
  rw [e1, thn_ok _ rfl]
  simp only
  rw [e2, thn_ok _ rfl]
  exact e3
theorem awake_load (s : Nat) : ldHard ⟨1000, [(hardN, Rc.recd (hardC 3 1), s)], false, none, none⟩ = ((3, 1), 0) := by
  have hr : stRead hardN ⟨1000, [(hardN, Rc.recd (hardC 3 1), s)], false, none, none⟩ = (0, Rc.recd (hardC 3 1)) := by
    unfold stRead
    rw [okHard]
    simp [fget, Dk.get]
  have hs : single (Rc.recd (hardC 3 1)) = some (hardC 3 1) := by
    unfold single
    rw [show Rc.first (Rc.recd (hardC 3 1)) = some (hardC 3 1) by
      rw [← List.append_nil (Rc.recd (hardC 3 1))]
      exact Rc.first_recd _ [] (by decide +kernel)]
    simp
  unfold ldHard
  rw [hr]
  simp only
  rw [if_neg (by decide), if_neg (by simp), hs]
  decide +kernel
set_option maxRecDepth 100000 in
set_option maxHeartbeats 1600000 in
theorem awake_any (w : World) : Calls Tryz.prog 8 #[] w fun e w' => e = .returned (.bool true) ∧ Below w.heap.size w w' := by
  have HN := Lib.hid (new_sn 1000 w (by omega) (by omega))
  go_enter Tryz.func8, Tryz.ntmps8
  go_wp2_with fail
  refine HN.out.mono ?_
  rintro e w1 ⟨b, g, rfl, hS⟩
  have HS := Lib.hid hS
  have H1 := Lib.hid (saveHard_any g b [] (st0 1000) 3 1 w1 hS.1 (by simp [st0]))
  rw [show stHard 3 1 (st0 1000) = stWrite hardN (Rc.recd (hardC 3 1)) (st0 1000) from rfl] at H1
  obtain ⟨s, hw⟩ := awake_write
  rw [hw] at H1
  unfold hardV at H1
  clear hS hw HN
  go_wp2_with fail
  refine H1.out.mono ?_
  rintro e w2 ⟨rfl, hL⟩
  obtain ⟨m2, hS2⟩ := HS.out.left hL
  have HS2 := Lib.hid hS2
  have H2 := Lib.hid (loadHard_any g b m2 _ w2 hS2.1)
  rw [awake_load] at H2
  clear hL hS2 HS H1
  go_wp2_with fail
  refine H2.out.mono ?_
  rintro e w3 ⟨rfl, hb3⟩
  have HB := Lib.hid (HS2.out.2.1.trans (hb3.mono HS2.out.2.1.size))
  clear hb3 H2 HS2
  go_wp2
  go_ret
  exact ⟨rfl, HB.out.alloc HB.out.size _⟩
end Go.Proofs.YtejphnbhcabchaaGreat.Kp
