/-
  Schedules of faults: fault, Fail, Arm, Off and Size of the program's disk. Conditions: the disk lies in memory as it was made.
-/
import Derived.Test.YtejphnbhcabchaaGreatDiskName
namespace Go.Proofs.YtejphnbhcabchaaGreat.Dk
open Go.RowKit Go.Proofs.YtejphnbhcabchaaGreat.Fld

theorem Dsk.cells {w : World} {g : Nat} {room : Int} {b : Nat} {size : Int} {off fs : Bool} {fl : Int} {ag : Bool} {al : Int} (h : Dsk w g room b size off fs fl ag al) :
    w.cell? ⟨g, 0, none⟩ = some (.int .i64 room) ∧ w.cell? ⟨g, 1, none⟩ = some (.map (some b)) ∧ w.cell? ⟨g, 2, none⟩ = some (.int .i64 size) ∧ w.cell? ⟨g, 3, none⟩ = some (.bool off) ∧
    w.cell? ⟨g, 4, none⟩ = some (.bool fs) ∧ w.cell? ⟨g, 5, none⟩ = some (.int .i64 fl) ∧ w.cell? ⟨g, 6, none⟩ = some (.bool ag) ∧ w.cell? ⟨g, 7, none⟩ = some (.int .i64 al) :=
  ⟨by rw [cell_of_row w g 0 _ _ (0, 0) h]; rfl, by rw [cell_of_row w g 1 _ _ (0, 0) h]; rfl, by rw [cell_of_row w g 2 _ _ (0, 0) h]; rfl, by rw [cell_of_row w g 3 _ _ (0, 0) h]; rfl,
   by rw [cell_of_row w g 4 _ _ (0, 0) h]; rfl, by rw [cell_of_row w g 5 _ _ (0, 0) h]; rfl, by rw [cell_of_row w g 6 _ _ (0, 0) h]; rfl, by rw [cell_of_row w g 7 _ _ (0, 0) h]; rfl⟩
theorem Dsk.free {w : World} {g : Nat} {room : Int} {b : Nat} {size : Int} {off fs : Bool} {fl : Int} {ag : Bool} {al : Int} (h : Dsk w g room b size off fs fl ag al) (i : Nat) : w.frozen? ⟨g, i, none⟩ = false := frozen_of_row w g i _ _ h
theorem Dsk.lt {w : World} {g : Nat} {room : Int} {b : Nat} {size : Int} {off fs : Bool} {fl : Int} {ag : Bool} {al : Int} (h : Dsk w g room b size off fs fl ag al) : g < w.heap.size := by
  rcases Nat.lt_or_ge g w.heap.size with h' | h'
  · exact h'
  · unfold Dsk at h; rw [Array.getElem?_eq_none h'] at h; cases h
section
variable {w : World} {g : Nat} {room : Int} {b : Nat} {size : Int} {off fs : Bool} {fl : Int} {ag : Bool} {al : Int}
theorem Dsk.set2 (h : Dsk w g room b size off fs fl ag al) (x : Int) : Dsk (w.setCell ⟨g, 2, none⟩ (.int .i64 x)) g room b x off fs fl ag al := heap_setCell_same w g 2 _ _ _ h
theorem Dsk.set3 (h : Dsk w g room b size off fs fl ag al) (x : Bool) : Dsk (w.setCell ⟨g, 3, none⟩ (.bool x)) g room b size x fs fl ag al := heap_setCell_same w g 3 _ _ _ h
theorem Dsk.set4 (h : Dsk w g room b size off fs fl ag al) (x : Bool) : Dsk (w.setCell ⟨g, 4, none⟩ (.bool x)) g room b size off x fl ag al := heap_setCell_same w g 4 _ _ _ h
theorem Dsk.set5 (h : Dsk w g room b size off fs fl ag al) (x : Int) : Dsk (w.setCell ⟨g, 5, none⟩ (.int .i64 x)) g room b size off fs x ag al := heap_setCell_same w g 5 _ _ _ h
theorem Dsk.set6 (h : Dsk w g room b size off fs fl ag al) (x : Bool) : Dsk (w.setCell ⟨g, 6, none⟩ (.bool x)) g room b size off fs fl x al := heap_setCell_same w g 6 _ _ _ h
theorem Dsk.set7 (h : Dsk w g room b size off fs fl ag al) (x : Int) : Dsk (w.setCell ⟨g, 7, none⟩ (.int .i64 x)) g room b size off fs fl ag x := heap_setCell_same w g 7 _ _ _ h
theorem Dsk.of_block {w' : World} (h : Dsk w g room b size off fs fl ag al) (hb : w'.heap[g]? = w.heap[g]?) : Dsk w' g room b size off fs fl ag al := hb.trans h
end
/-- the disk's block, told by the state -/
def DskT (w : World) (g b : Nat) (t : St) : Prop := Dsk w g (t.room : Int) b (total t.fs : Nat) t.off t.fail.isSome ((t.fail.getD 0 : Nat) : Int) t.arm.isSome ((t.arm.getD 0 : Nat) : Int)

set_option maxRecDepth 100000 in
set_option maxHeartbeats 3200000 in
theorem fault_any (g b : Nat) (t : St) (w : World) (h : DskT w g b t) (hf : ∀ k, t.fail = some k → k ≤ 9223372036854775807) (ha : ∀ k, t.arm = some k → k ≤ 9223372036854775807) :
    Calls Tryz.prog 85 #[.pointer (some ⟨g, 0, none⟩)] w fun e w' => e = .returned (.int .i64 (chg t).1) ∧ DskT w' g b (chg t).2 ∧ Fr [g] w w' := by
  obtain ⟨room, fs, off, fail, arm⟩ := t
  unfold DskT at h
  simp only at h hf ha
  have HD := Lib.hid h
  obtain ⟨c0, c1, c2, c3, c4, c5, c6, c7⟩ := h.cells
  have f3 := h.free 3
  have f4 := h.free 4
  have f5 := h.free 5
  have f6 := h.free 6
  have f7 := h.free 7
  clear h
  cases off with
  | true =>
    go_enter Tryz.func85, Tryz.ntmps85
    go_wp2
    go_ret
    exact ⟨rfl, HD.out, Fr.refl _ _⟩
  | false =>
    rcases arm with _ | _ | a
    · rcases fail with _ | _ | k
      · go_enter Tryz.func85, Tryz.ntmps85
        go_wp2
        go_ret
        exact ⟨rfl, HD.out, Fr.refl _ _⟩
      · go_enter Tryz.func85, Tryz.ntmps85
        go_wp2
        go_ret
        exact ⟨rfl, (HD.out.set4 false).set5 0, ((Fr.refl _ _).setCell _ (.inl (by simp)) _).setCell _ (.inl (by simp)) _⟩
      · have hk := hf _ rfl
        have j1 : (0 : Int) < ((k + 1 : Nat) : Int) := by omega
        go_enter Tryz.func85, Tryz.ntmps85
        go_wp2
        go_ret
        exact ⟨rfl, HD.out.set5 _, ((Fr.refl _ _).setCell _ (.inl (by simp)) _)⟩
    · go_enter Tryz.func85, Tryz.ntmps85
      go_wp2
      go_ret
      exact ⟨rfl, ((HD.out.set6 false).set7 0).set3 true, (((Fr.refl _ _).setCell _ (.inl (by simp)) _).setCell _ (.inl (by simp)) _).setCell _ (.inl (by simp)) _⟩
    · have hka := ha _ rfl
      have j2 : (0 : Int) < ((a + 1 : Nat) : Int) := by omega
      rcases fail with _ | _ | k
      · go_enter Tryz.func85, Tryz.ntmps85
        go_wp2
        go_ret
        exact ⟨rfl, HD.out.set7 _, ((Fr.refl _ _).setCell _ (.inl (by simp)) _)⟩
      · go_enter Tryz.func85, Tryz.ntmps85
        go_wp2
        go_ret
        exact ⟨rfl, ((HD.out.set7 _).set4 false).set5 0, (((Fr.refl _ _).setCell _ (.inl (by simp)) _).setCell _ (.inl (by simp)) _).setCell _ (.inl (by simp)) _⟩
      · have hk := hf _ rfl
        have j1 : (0 : Int) < ((k + 1 : Nat) : Int) := by omega
        go_enter Tryz.func85, Tryz.ntmps85
        go_wp2
        go_ret
        exact ⟨rfl, (HD.out.set7 _).set5 _, ((Fr.refl _ _).setCell _ (.inl (by simp)) _).setCell _ (.inl (by simp)) _⟩
theorem fail_any (g b : Nat) (t : St) (n : Int) (w : World) (h : DskT w g b t) :
    Calls Tryz.prog 15 #[.pointer (some ⟨g, 0, none⟩), .int .i64 n] w fun e w' => e = .returned (.int .i64 (stFail n t).1) ∧ DskT w' g b (stFail n t).2 ∧ Fr [g] w w' := by
  have HD := Lib.hid h
  obtain ⟨c0, c1, c2, c3, c4, c5, c6, c7⟩ := Dsk.cells h
  have f4 := Dsk.free h 4
  have f5 := Dsk.free h 5
  clear h
  by_cases hn : n < 0
  · have e1 : stFail n t = (1, t) := by unfold stFail; rw [if_pos hn]
    rw [e1]
    clear e1
    go_enter Tryz.func15, Tryz.ntmps15
    go_wp2
    go_ret
    exact ⟨rfl, HD.out, Fr.refl _ _⟩
  · have e1 : stFail n t = (0, { t with fail := some n.toNat }) := by unfold stFail; rw [if_neg hn]
    rw [e1]
    have e : ((n.toNat : Nat) : Int) = n := by omega
    have HE := Lib.hid e
    clear e e1
    go_enter Tryz.func15, Tryz.ntmps15
    go_wp2
    go_ret
    refine ⟨rfl, ?_, ((Fr.refl _ _).setCell _ (.inl (by simp)) _).setCell _ (.inl (by simp)) _⟩
    have := (Dsk.set4 HD.out true).set5 n
    unfold DskT
    simp only [Option.isSome_some, Option.getD_some, HE.out]
    exact this
theorem arm_any (g b : Nat) (t : St) (n : Int) (w : World) (h : DskT w g b t) :
    Calls Tryz.prog 17 #[.pointer (some ⟨g, 0, none⟩), .int .i64 n] w fun e w' => e = .returned (.int .i64 (stArm n t).1) ∧ DskT w' g b (stArm n t).2 ∧ Fr [g] w w' := by
  have HD := Lib.hid h
  obtain ⟨c0, c1, c2, c3, c4, c5, c6, c7⟩ := Dsk.cells h
  have f4 := Dsk.free h 6
  have f5 := Dsk.free h 7
  clear h
  by_cases hn : n < 0
  · have e1 : stArm n t = (1, t) := by unfold stArm; rw [if_pos hn]
    rw [e1]
    clear e1
    go_enter Tryz.func17, Tryz.ntmps17
    go_wp2
    go_ret
    exact ⟨rfl, HD.out, Fr.refl _ _⟩
  · have e1 : stArm n t = (0, { t with arm := some n.toNat }) := by unfold stArm; rw [if_neg hn]
    rw [e1]
    have e : ((n.toNat : Nat) : Int) = n := by omega
    have HE := Lib.hid e
    clear e e1
    go_enter Tryz.func17, Tryz.ntmps17
    go_wp2
    go_ret
    refine ⟨rfl, ?_, ((Fr.refl _ _).setCell _ (.inl (by simp)) _).setCell _ (.inl (by simp)) _⟩
    have := (Dsk.set6 HD.out true).set7 n
    unfold DskT
    simp only [Option.isSome_some, Option.getD_some, HE.out]
    exact this
theorem off_any (g b : Nat) (t : St) (w : World) (h : DskT w g b t) : Calls Tryz.prog 28 #[.pointer (some ⟨g, 0, none⟩)] w fun e w' => e = .returned (.bool t.off) ∧ w = w' := by
  obtain ⟨c0, c1, c2, c3, c4, c5, c6, c7⟩ := Dsk.cells h
  clear h
  go_enter Tryz.func28, Tryz.ntmps28
  go_wp2
  go_ret
  exact ⟨rfl, rfl⟩
theorem size_any (g b : Nat) (t : St) (w : World) (h : DskT w g b t) : Calls Tryz.prog 29 #[.pointer (some ⟨g, 0, none⟩)] w fun e w' => e = .returned (.int .i64 (total t.fs : Nat)) ∧ w = w' := by
  obtain ⟨c0, c1, c2, c3, c4, c5, c6, c7⟩ := Dsk.cells h
  clear h
  go_enter Tryz.func29, Tryz.ntmps29
  go_wp2
  go_ret
  exact ⟨rfl, rfl⟩

/-- a modification that is not made: a name is wrong -/
theorem modify_name (g A n cap : Nat) (fn : Value) (ss : List ByteArray) (w : World) (hr : RdS w (some ⟨A, 0, none⟩) n ss) (hv : allN ss = false) :
    Calls Tryz.prog 45 #[.pointer (some ⟨g, 0, none⟩), fn, .slice (some ⟨A, 0, none⟩) n cap] w fun e w' => e = .returned (.int .i64 1) ∧ w = w' := by
  have HV := Lib.hid (valid_any _ n cap ss w hr)
  rw [hv] at HV
  clear hr hv
  go_enter Tryz.func45, Tryz.ntmps45
  go_wp2_with (go_at_call 84; refine HV.out.mono ?_; rintro e w' ⟨rfl, rfl⟩)
  go_ret
  exact ⟨rfl, rfl⟩
/-- .. a fault is ahead of it -/
theorem modify_fault (g b A n cap : Nat) (t : St) (fn : Value) (ss : List ByteArray) (w : World) (h : DskT w g b t) (hf : ∀ k, t.fail = some k → k ≤ 9223372036854775807) (ha : ∀ k, t.arm = some k → k ≤ 9223372036854775807) (hr : RdS w (some ⟨A, 0, none⟩) n ss) (hv : allN ss = true) (h0 : (chg t).1 ≠ 0) :
    Calls Tryz.prog 45 #[.pointer (some ⟨g, 0, none⟩), fn, .slice (some ⟨A, 0, none⟩) n cap] w fun e w' => e = .returned (.int .i64 (chg t).1) ∧ DskT w' g b (chg t).2 ∧ Fr [g] w w' := by
  have HV := Lib.hid (valid_any _ n cap ss w hr)
  rw [hv] at HV
  have HF := Lib.hid (fault_any g b t w h hf ha)
  generalize (chg t).2 = t' at *
  generalize (chg t).1 = c at *
  have j : (c == 0) = false := by simpa using h0
  clear h hr hv
  go_enter Tryz.func45, Tryz.ntmps45
  go_wp2_with (first | (go_at_call 84; refine HV.out.mono ?_; rintro e w' ⟨rfl, rfl⟩) | (go_at_call 85; refine HF.out.mono ?_; rintro e w' ⟨rfl, hD, hF⟩; have HD1 := Lib.hid hD; have HF1 := Lib.hid hF; clear hD hF))
  go_ret
  exact ⟨rfl, HD1.out, HF1.out⟩
/-- .. it is made -/
theorem modify_made (g b A n cap K : Nat) (caps : Array Value) (hen : ∀ w, (callFunc K caps).run Tryz.prog w = .ok (.enter K caps) w) (t : St) (ss : List ByteArray) (w : World) (h : DskT w g b t) (hf : ∀ k, t.fail = some k → k ≤ 9223372036854775807) (ha : ∀ k, t.arm = some k → k ≤ 9223372036854775807) (hr : RdS w (some ⟨A, 0, none⟩) n ss) (hv : allN ss = true) (h0 : (chg t).1 = 0)
    (Q : Int → World → Prop) (hc : ∀ w', DskT w' g b (chg t).2 → Fr [g] w w' → Calls Tryz.prog K caps w' fun e w2 => ∃ r, e = .returned (.int .i64 r) ∧ Q r w2) :
    Calls Tryz.prog 45 #[.pointer (some ⟨g, 0, none⟩), .func (.func K) #[] caps, .slice (some ⟨A, 0, none⟩) n cap] w fun e w2 => ∃ r, e = .returned (.int .i64 r) ∧ Q r w2 := by
  have HV := Lib.hid (valid_any _ n cap ss w hr)
  rw [hv] at HV
  have HF := Lib.hid (fault_any g b t w h hf ha)
  have HC := Lib.hid hc
  rw [h0] at HF
  clear h hr hv hc
  go_enter Tryz.func45, Tryz.ntmps45
  go_wp2_with (first | (go_at_call 84; refine HV.out.mono ?_; rintro e w' ⟨rfl, rfl⟩) | (go_at_call 85; refine HF.out.mono ?_; rintro e w1 ⟨rfl, hD, hF⟩; have HC1 := Lib.hid (HC.out w1 hD hF); clear hD hF))
  refine HC1.out.mono ?_
  rintro e w2 ⟨r, rfl, hQ⟩
  have HQ := Lib.hid hQ
  clear hQ
  go_wp2
  go_ret
  exact ⟨r, rfl, HQ.out⟩
end Go.Proofs.YtejphnbhcabchaaGreat.Dk
