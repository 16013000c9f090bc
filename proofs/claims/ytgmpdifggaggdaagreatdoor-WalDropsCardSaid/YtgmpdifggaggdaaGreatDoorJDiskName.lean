/-
  Several texts in one: Which names the program, and the document, take for valid. Conditions: the names can be read in memory. Schedules of faults: fault, Fail, Arm, Off and Size of the program's disk. Conditions: the disk lies in memory as it was made. The program's disk in memory (Im): its block, the map of its files, their bytes; what looking up, storing and deleting in that map do. Conditions: as each theorem states. Unlink of the program's disk, and how a file is let go of. Conditions: the disk lies in memory as it was made (Im). Sync and Unlink of the program's disk. Conditions: the disk lies in memory as it was made (Im).
-/
import Derived.Test.YtgmpdifggaggdaaGreatDoorJFieldBase
import Derived.Test.YtgmpdifggaggdaaGreatDoorJDiskMath
import Derived.Great.BuildSlice
import Derived.Shelf.Abstract
namespace Go.Proofs.YtgmpdifggaggdaaGreatDoor.Dk
open Go.RowKit Go.Proofs.YtgmpdifggaggdaaGreatDoor.Fld

def okI (c : Int) : Bool := (decide (97 ≤ c) && decide (c ≤ 122)) || (decide (48 ≤ c) && decide (c ≤ 57)) || decide (c = 46) || decide (c = 45)
theorem okI_cast (c : UInt8) : okI (c.toNat : Int) = okC c := by
  unfold okI okC
  have e1 : (decide ((97 : Int) ≤ (c.toNat : Int))) = decide (97 ≤ c.toNat) := decide_eq_decide.2 (by omega)
  have e2 : (decide ((c.toNat : Int) ≤ 122)) = decide (c.toNat ≤ 122) := decide_eq_decide.2 (by omega)
  have e3 : (decide ((48 : Int) ≤ (c.toNat : Int))) = decide (48 ≤ c.toNat) := decide_eq_decide.2 (by omega)
  have e4 : (decide ((c.toNat : Int) ≤ 57)) = decide (c.toNat ≤ 57) := decide_eq_decide.2 (by omega)
  have e5 : (decide ((c.toNat : Int) = 46)) = decide (c.toNat = 46) := decide_eq_decide.2 (by omega)
  have e6 : (decide ((c.toNat : Int) = 45)) = decide (c.toNat = 45) := decide_eq_decide.2 (by omega)
  rw [e1, e2, e3, e4, e5, e6]
set_option maxHeartbeats 1600000 in
theorem sign_any (c : Int) (w : World) : Calls Tryz.prog 91 #[.int .u8 c] w fun e w' => e = .returned (.bool (okI c)) ∧ w = w' := by
  have e5 : (c == 46) = decide (c = 46) := rfl
  have e6 : (c == 45) = decide (c = 45) := rfl
  unfold okI
  cases d1 : decide (97 ≤ c) <;> cases d2 : decide (c ≤ 122) <;> cases d3 : decide (48 ≤ c) <;> cases d4 : decide (c ≤ 57) <;> cases d5 : decide (c = 46) <;> cases d6 : decide (c = 45) <;> (first | (exfalso; simp at d1 d2 d3 d4 d5 d6; omega) | skip)
  all_goals
    rw [d5] at e5
    rw [d6] at e6
    go_enter Tryz.func91, Tryz.ntmps91
    go_wp2
    go_ret
    exact ⟨rfl, rfl⟩

theorem all_take_succ (x : Nm) (k : Nat) (c : UInt8) (h : x[k]? = some c) : (x.take (k + 1)).all okC = ((x.take k).all okC && okC c) := by
  rw [List.take_add_one, h]
  simp
theorem all_false (x : Nm) (k : Nat) (c : UInt8) (h : x[k]? = some c) (hc : okC c = false) : okN x = false := by
  have : x.all okC = false := by
    rw [List.all_eq_false]
    exact ⟨c, List.mem_of_getElem? h, by simp [hc]⟩
  simp [okN, this]
theorem okN_eq (x : Nm) (h : x.all okC = true) : okN x = (decide (1 ≤ x.length) && decide (x.length ≤ 64)) := by simp [okN, h]
theorem len_data (s : ByteArray) : s.data.toList.length = s.size := by simp
theorem at_data (s : ByteArray) (k : Nat) (h : k < s.size) : s.data.toList[k]? = some s[k] := by
  rw [Array.getElem?_toList]
  exact Array.getElem?_eq_getElem h
/-- a slice of strings -/
def RdS (w : World) (A : Option Addr) (n : Nat) (ss : List ByteArray) : Prop :=
  ss.length = n ∧ n ≤ 1000000000 ∧ (0 < n → ∃ b off, A = some ⟨b, off, none⟩ ∧ ∀ i, i < n → w.cell? ⟨b, off + i, none⟩ = some (.string (ss.getD i ⟨#[]⟩)))
def allN (ss : List ByteArray) : Bool := ss.all fun s => okN s.data.toList
theorem allN_succ (ss : List ByteArray) (k : Nat) (h : k < ss.length) : allN (ss.take (k + 1)) = (allN (ss.take k) && okN (ss.getD k ⟨#[]⟩).data.toList) := by
  unfold allN
  rw [List.getD_eq_getElem?_getD, List.getElem?_eq_getElem h, Option.getD_some, List.take_add_one, List.getElem?_eq_getElem h, List.all_append]
  simp
theorem allN_false (ss : List ByteArray) (k : Nat) (h : k < ss.length) (hf : okN (ss.getD k ⟨#[]⟩).data.toList = false) : allN ss = false := by
  unfold allN
  rw [List.all_eq_false]
  exact ⟨ss.getD k ⟨#[]⟩, by rw [List.getD_eq_getElem?_getD, List.getElem?_eq_getElem h]; simp, by rw [hf]; simp⟩
theorem short_false (x : Nm) (h : x.length < 1 ∨ 64 < x.length) : okN x = false := by
  unfold okN
  rcases h with h | h
  · rw [show decide (1 ≤ x.length) = false from decide_eq_false (by omega)]; rfl
  · rw [show decide (x.length ≤ 64) = false from decide_eq_false (by omega)]; simp
theorem okN_true (x : Nm) (h1 : 1 ≤ x.length) (h2 : x.length ≤ 64) (h : x.all okC = true) : okN x = true := by
  rw [okN_eq x h]; simp; omega
set_option maxRecDepth 100000 in
set_option maxHeartbeats 3200000 in
theorem valid_any (A : Option Addr) (n cap : Nat) (ss : List ByteArray) (w : World) (hr : RdS w A n ss) : Calls Tryz.prog 67 #[.slice A n cap] w fun e w' => e = .returned (.bool (allN ss)) ∧ w = w' := by
  obtain ⟨hl, hm, hc⟩ := hr
  obtain ⟨B, hB⟩ : ∃ B, allN ss = B := ⟨_, rfl⟩
  have HB := Lib.hid hB
  have HL := Lib.hid hl
  have HC := Lib.hid hc
  rw [hB]
  clear hB hl hc
  go_enter Tryz.func67, Tryz.ntmps67
  go_wp2
  go_loop [8] (fun i => ∃ k : Nat, k ≤ n ∧ i = .int .i64 k ∧ allN (ss.take k) = true) (fun i => n - (intOf i).toNat)
  case atStart => exact ⟨0, Nat.zero_le _, rfl, rfl⟩
  case round =>
    obtain ⟨k, hk, rfl, hall⟩ := hrel
    have HA := Lib.hid hall
    clear hall
    by_cases hlt : k < n
    · obtain ⟨b, off, rfl, hcell⟩ := HC.out (by omega)
      have hc := hcell k hlt
      clear hcell
      have HS := Lib.hid (allN_succ ss k (by rw [HL.out]; exact hlt))
      have HF := Lib.hid (allN_false ss k (by rw [HL.out]; exact hlt))
      generalize ss.getD k ⟨#[]⟩ = s at *
      by_cases h1 : s.size < 1
      · have j1 : decide ((s.size : Int) < 1) = true := by simp; omega
        go_wp2
        go_ret
        exact ⟨by rw [← HB.out, HF.out (short_false _ (.inl (by rw [len_data]; exact h1)))]; rfl, rfl⟩
      · have j1 : decide ((s.size : Int) < 1) = false := by simp; omega
        by_cases h2 : 64 < s.size
        · have j2 : decide (64 < (s.size : Int)) = true := by simp; omega
          go_wp2
          go_ret
          exact ⟨by rw [← HB.out, HF.out (short_false _ (.inr (by rw [len_data]; exact h2)))]; rfl, rfl⟩
        · have j2 : decide (64 < (s.size : Int)) = false := by simp; omega
          go_wp2
          go_loop [22] (fun i => ∃ j : Nat, j ≤ s.size ∧ i = .int .i64 j ∧ (s.data.toList.take j).all okC = true) (fun i => s.size - (intOf i).toNat)
          case atStart => exact ⟨0, Nat.zero_le _, rfl, rfl⟩
          case round =>
            obtain ⟨j, hj, rfl, hall2⟩ := hrel
            have HA2 := Lib.hid hall2
            clear hall2
            by_cases hlt2 : j < s.size
            · have HD := Lib.hid (at_data s j hlt2)
              obtain ⟨u, hu⟩ : ∃ u : UInt8, s[j] = u := ⟨_, rfl⟩
              have HO := Lib.hid (okI_cast u)
              rw [hu] at HD
              obtain ⟨c, hc⟩ : ∃ c : Int, (u.toNat : Int) = c := ⟨_, rfl⟩
              rw [hc] at HO
              have hsg := Lib.hid (sign_any c w)
              cases ho : okI c <;> rw [ho] at HO hsg
              · go_wp2_with (go_at_call 91; refine hsg.out.mono ?_; rintro e w' ⟨rfl, rfl⟩)
                go_ret
                exact ⟨by rw [← HB.out, HF.out (all_false _ j u HD.out HO.out.symm)]; rfl, rfl⟩
              · go_wp2_with (go_at_call 91; refine hsg.out.mono ?_; rintro e w' ⟨rfl, rfl⟩)
                go_roundw
                case rel => exact ⟨j + 1, by omega, by go_num, by rw [all_take_succ _ j u HD.out, HA2.out, ← HO.out]; rfl⟩
                case measure => simp [intOf]; omega
            · obtain rfl : j = s.size := by omega
              have HT := Lib.hid (okN_true s.data.toList (by rw [len_data]; omega) (by rw [len_data]; omega) (by have := HA2.out; rwa [← len_data, List.take_length] at this))
              go_wp2
              go_roundw
              case rel => exact ⟨k + 1, by omega, by go_num, by rw [HS.out, HA.out, HT.out]; rfl⟩
              case measure => simp [intOf]; omega
    · obtain rfl : k = n := by omega
      have HT := Lib.hid (show B = true by rw [← HB.out]; have := HA.out; rwa [← HL.out, List.take_length] at this)
      go_wp2
      go_ret
      exact ⟨by rw [HT.out]; rfl, rfl⟩
end Go.Proofs.YtgmpdifggaggdaaGreatDoor.Dk

namespace Go.Proofs.YtgmpdifggaggdaaGreatDoor.Dk
open Go.RowKit Go.Proofs.YtgmpdifggaggdaaGreatDoor.Fld

theorem Dsk.cells {w : World} {g : Nat} {room : Int} {b : Nat} {size : Int} {off fs : Bool} {fl : Int} {ag : Bool} {al : Int} (h : Dsk w g room b size off fs fl ag al) :
    w.cell? ⟨g, 0, none⟩ = some (.int .i64 room) ∧ w.cell? ⟨g, 1, none⟩ = some (.map (some b)) ∧ w.cell? ⟨g, 2, none⟩ = some (.int .i64 size) ∧ w.cell? ⟨g, 3, none⟩ = some (.bool off) ∧
    w.cell? ⟨g, 4, none⟩ = some (.bool fs) ∧ w.cell? ⟨g, 5, none⟩ = some (.int .i64 fl) ∧ w.cell? ⟨g, 6, none⟩ = some (.bool ag) ∧ w.cell? ⟨g, 7, none⟩ = some (.int .i64 al) :=
  ⟨by rw [cell_of_row w g 0 _ _ (0, 0) h]; rfl, by rw [cell_of_row w g 1 _ _ (0, 0) h]; rfl, by rw [cell_of_row w g 2 _ _ (0, 0) h]; rfl, by rw [cell_of_row w g 3 _ _ (0, 0) h]; rfl,
   by rw [cell_of_row w g 4 _ _ (0, 0) h]; rfl, by rw [cell_of_row w g 5 _ _ (0, 0) h]; rfl, by rw [cell_of_row w g 6 _ _ (0, 0) h]; rfl, by rw [cell_of_row w g 7 _ _ (0, 0) h]; rfl⟩
theorem Dsk.free {w : World} {g : Nat} {room : Int} {b : Nat} {size : Int} {off fs : Bool} {fl : Int} {ag : Bool} {al : Int} (h : Dsk w g room b size off fs fl ag al) (i : Nat) : w.frozen? ⟨g, i, none⟩ = false := frozen_of_row w g i _ _ h
theorem Dsk.lt {w : World} {g : Nat} {room : Int} {b : Nat} {size : Int} {off fs : Bool} {fl : Int} {ag : Bool} {al : Int} (h : Dsk w g room b size off fs fl ag al) : g < w.heap.size := by
  rcases Nat.lt_or_ge g w.heap.size with h' | h'
  · exact h'
  · unfold Dsk at h; rw [Array.getElem?_eq_none h'] at h; cases h
section
variable {w : World} {g : Nat} {room : Int} {b : Nat} {size : Int} {off fs : Bool} {fl : Int} {ag : Bool} {al : Int}
theorem Dsk.set2 (h : Dsk w g room b size off fs fl ag al) (x : Int) : Dsk (w.setCell ⟨g, 2, none⟩ (.int .i64 x)) g room b x off fs fl ag al := heap_setCell_same w g 2 _ _ _ h
theorem Dsk.set3 (h : Dsk w g room b size off fs fl ag al) (x : Bool) : Dsk (w.setCell ⟨g, 3, none⟩ (.bool x)) g room b size x fs fl ag al := heap_setCell_same w g 3 _ _ _ h
theorem Dsk.set4 (h : Dsk w g room b size off fs fl ag al) (x : Bool) : Dsk (w.setCell ⟨g, 4, none⟩ (.bool x)) g room b size off x fl ag al := heap_setCell_same w g 4 _ _ _ h
theorem Dsk.set5 (h : Dsk w g room b size off fs fl ag al) (x : Int) : Dsk (w.setCell ⟨g, 5, none⟩ (.int .i64 x)) g room b size off fs x ag al := heap_setCell_same w g 5 _ _ _ h
theorem Dsk.set6 (h : Dsk w g room b size off fs fl ag al) (x : Bool) : Dsk (w.setCell ⟨g, 6, none⟩ (.bool x)) g room b size off fs fl x al := heap_setCell_same w g 6 _ _ _ h
theorem Dsk.set7 (h : Dsk w g room b size off fs fl ag al) (x : Int) : Dsk (w.setCell ⟨g, 7, none⟩ (.int .i64 x)) g room b size off fs fl ag x := heap_setCell_same w g 7 _ _ _ h
theorem Dsk.of_block {w' : World} (h : Dsk w g room b size off fs fl ag al) (hb : w'.heap[g]? = w.heap[g]?) : Dsk w' g room b size off fs fl ag al := hb.trans h
end
/-- the disk's block, told by the state -/
def DskT (w : World) (g b : Nat) (t : St) : Prop := Dsk w g (t.room : Int) b (total t.fs : Nat) t.off t.fail.isSome ((t.fail.getD 0 : Nat) : Int) t.arm.isSome ((t.arm.getD 0 : Nat) : Int)

set_option maxRecDepth 100000 in
set_option maxHeartbeats 3200000 in
theorem fault_any (g b : Nat) (t : St) (w : World) (h : DskT w g b t) (hf : ∀ k, t.fail = some k → k ≤ 9223372036854775807) (ha : ∀ k, t.arm = some k → k ≤ 9223372036854775807) :
    Calls Tryz.prog 81 #[.pointer (some ⟨g, 0, none⟩)] w fun e w' => e = .returned (.int .i64 (chg t).1) ∧ DskT w' g b (chg t).2 ∧ Fr [g] w w' := by
  obtain ⟨room, fs, off, fail, arm⟩ := t
  unfold DskT at h
  simp only at h hf ha
  have HD := Lib.hid h
  obtain ⟨c0, c1, c2, c3, c4, c5, c6, c7⟩ := h.cells
  have f3 := h.free 3
  have f4 := h.free 4
  have f5 := h.free 5
  have f6 := h.free 6
  have f7 := h.free 7
  clear h
  cases off with
  | true =>
    go_enter Tryz.func81, Tryz.ntmps81
    go_wp2
    go_ret
    exact ⟨rfl, HD.out, Fr.refl _ _⟩
  | false =>
    rcases arm with _ | _ | a
    · rcases fail with _ | _ | k
      · go_enter Tryz.func81, Tryz.ntmps81
        go_wp2
        go_ret
        exact ⟨rfl, HD.out, Fr.refl _ _⟩
      · go_enter Tryz.func81, Tryz.ntmps81
        go_wp2
        go_ret
        exact ⟨rfl, (HD.out.set4 false).set5 0, ((Fr.refl _ _).setCell _ (.inl (by simp)) _).setCell _ (.inl (by simp)) _⟩
      · have hk := hf _ rfl
        have j1 : (0 : Int) < ((k + 1 : Nat) : Int) := by omega
        go_enter Tryz.func81, Tryz.ntmps81
        go_wp2
        go_ret
        exact ⟨rfl, HD.out.set5 _, ((Fr.refl _ _).setCell _ (.inl (by simp)) _)⟩
    · go_enter Tryz.func81, Tryz.ntmps81
      go_wp2
      go_ret
      exact ⟨rfl, ((HD.out.set6 false).set7 0).set3 true, (((Fr.refl _ _).setCell _ (.inl (by simp)) _).setCell _ (.inl (by simp)) _).setCell _ (.inl (by simp)) _⟩
    · have hka := ha _ rfl
      have j2 : (0 : Int) < ((a + 1 : Nat) : Int) := by omega
      rcases fail with _ | _ | k
      · go_enter Tryz.func81, Tryz.ntmps81
        go_wp2
        go_ret
        exact ⟨rfl, HD.out.set7 _, ((Fr.refl _ _).setCell _ (.inl (by simp)) _)⟩
      · go_enter Tryz.func81, Tryz.ntmps81
        go_wp2
        go_ret
        exact ⟨rfl, ((HD.out.set7 _).set4 false).set5 0, (((Fr.refl _ _).setCell _ (.inl (by simp)) _).setCell _ (.inl (by simp)) _).setCell _ (.inl (by simp)) _⟩
      · have hk := hf _ rfl
        have j1 : (0 : Int) < ((k + 1 : Nat) : Int) := by omega
        go_enter Tryz.func81, Tryz.ntmps81
        go_wp2
        go_ret
        exact ⟨rfl, (HD.out.set7 _).set5 _, ((Fr.refl _ _).setCell _ (.inl (by simp)) _).setCell _ (.inl (by simp)) _⟩
theorem off_any (g b : Nat) (t : St) (w : World) (h : DskT w g b t) : Calls Tryz.prog 14 #[.pointer (some ⟨g, 0, none⟩)] w fun e w' => e = .returned (.bool t.off) ∧ w = w' := by
  obtain ⟨c0, c1, c2, c3, c4, c5, c6, c7⟩ := Dsk.cells h
  clear h
  go_enter Tryz.func14, Tryz.ntmps14
  go_wp2
  go_ret
  exact ⟨rfl, rfl⟩
/-- a modification that is not made: a name is wrong -/
theorem modify_name (g A n cap : Nat) (fn : Value) (ss : List ByteArray) (w : World) (hr : RdS w (some ⟨A, 0, none⟩) n ss) (hv : allN ss = false) :
    Calls Tryz.prog 55 #[.pointer (some ⟨g, 0, none⟩), fn, .slice (some ⟨A, 0, none⟩) n cap] w fun e w' => e = .returned (.int .i64 1) ∧ w = w' := by
  have HV := Lib.hid (valid_any _ n cap ss w hr)
  rw [hv] at HV
  clear hr hv
  go_enter Tryz.func55, Tryz.ntmps55
  go_wp2_with (go_at_call 67; refine HV.out.mono ?_; rintro e w' ⟨rfl, rfl⟩)
  go_ret
  exact ⟨rfl, rfl⟩
/-- .. a fault is ahead of it -/
theorem modify_fault (g b A n cap : Nat) (t : St) (fn : Value) (ss : List ByteArray) (w : World) (h : DskT w g b t) (hf : ∀ k, t.fail = some k → k ≤ 9223372036854775807) (ha : ∀ k, t.arm = some k → k ≤ 9223372036854775807) (hr : RdS w (some ⟨A, 0, none⟩) n ss) (hv : allN ss = true) (h0 : (chg t).1 ≠ 0) :
    Calls Tryz.prog 55 #[.pointer (some ⟨g, 0, none⟩), fn, .slice (some ⟨A, 0, none⟩) n cap] w fun e w' => e = .returned (.int .i64 (chg t).1) ∧ DskT w' g b (chg t).2 ∧ Fr [g] w w' := by
  have HV := Lib.hid (valid_any _ n cap ss w hr)
  rw [hv] at HV
  have HF := Lib.hid (fault_any g b t w h hf ha)
  generalize (chg t).2 = t' at *
  generalize (chg t).1 = c at *
  have j : (c == 0) = false := by simpa using h0
  clear h hr hv
  go_enter Tryz.func55, Tryz.ntmps55
  go_wp2_with (first | (go_at_call 67; refine HV.out.mono ?_; rintro e w' ⟨rfl, rfl⟩) | (go_at_call 81; refine HF.out.mono ?_; rintro e w' ⟨rfl, hD, hF⟩; have HD1 := Lib.hid hD; have HF1 := Lib.hid hF; clear hD hF))
  go_ret
  exact ⟨rfl, HD1.out, HF1.out⟩
/-- .. it is made -/
theorem modify_made (g b A n cap K : Nat) (caps : Array Value) (hen : ∀ w, (callFunc K caps).run Tryz.prog w = .ok (.enter K caps) w) (t : St) (ss : List ByteArray) (w : World) (h : DskT w g b t) (hf : ∀ k, t.fail = some k → k ≤ 9223372036854775807) (ha : ∀ k, t.arm = some k → k ≤ 9223372036854775807) (hr : RdS w (some ⟨A, 0, none⟩) n ss) (hv : allN ss = true) (h0 : (chg t).1 = 0)
    (Q : Int → World → Prop) (hc : ∀ w', DskT w' g b (chg t).2 → Fr [g] w w' → Calls Tryz.prog K caps w' fun e w2 => ∃ r, e = .returned (.int .i64 r) ∧ Q r w2) :
    Calls Tryz.prog 55 #[.pointer (some ⟨g, 0, none⟩), .func (.func K) #[] caps, .slice (some ⟨A, 0, none⟩) n cap] w fun e w2 => ∃ r, e = .returned (.int .i64 r) ∧ Q r w2 := by
  have HV := Lib.hid (valid_any _ n cap ss w hr)
  rw [hv] at HV
  have HF := Lib.hid (fault_any g b t w h hf ha)
  have HC := Lib.hid hc
  rw [h0] at HF
  clear h hr hv hc
  go_enter Tryz.func55, Tryz.ntmps55
  go_wp2_with (first | (go_at_call 67; refine HV.out.mono ?_; rintro e w' ⟨rfl, rfl⟩) | (go_at_call 81; refine HF.out.mono ?_; rintro e w1 ⟨rfl, hD, hF⟩; have HC1 := Lib.hid (HC.out w1 hD hF); clear hD hF))
  refine HC1.out.mono ?_
  rintro e w2 ⟨r, rfl, hQ⟩
  have HQ := Lib.hid hQ
  clear hQ
  go_wp2
  go_ret
  exact ⟨r, rfl, HQ.out⟩
end Go.Proofs.YtgmpdifggaggdaaGreatDoor.Dk

namespace Go.Proofs.YtgmpdifggaggdaaGreatDoor.Dk
open Go.RowKit Go.Proofs.YtgmpdifggaggdaaGreatDoor.Fld

def FileAt (w : World) (e : Ent) : Prop := Bytes e.zs ∧ w.ownsRow 0 5 1 e.v e.zs.length (by8 e.zs)
def blks (m : List Ent) : List Nat := m.filterMap fun e => e.v.ownBlock
structure Im (w : World) (g b : Nat) (m : List Ent) (t : St) : Prop where
  dsk : DskT w g b t
  own : w.ownsMap Tryz.prog 9 R1 b m.length (dOf m)
  fs : t.fs = m.map Ent.fil
  file : ∀ e ∈ m, FileAt w e
  nodup : (g :: b :: blks m).Nodup
  good : Good t
  fl : ∀ k, t.fail = some k → k ≤ 9223372036854775807
  al : ∀ k, t.arm = some k → k ≤ 9223372036854775807

theorem FileAt.lt {w : World} {e : Ent} (h : FileAt w e) {i : Nat} (hi : e.v.ownBlock = some i) : i < w.heap.size := by
  rcases h.2.2 with ⟨hv, _⟩ | ⟨q, cap, cur, hv, _, hb, _⟩
  · rw [hv] at hi; cases hi
  · rw [hv] at hi; cases hi; exact (Array.getElem?_eq_some_iff.1 hb).1
theorem FileAt.of_block {w w' : World} {e : Ent} (h : FileAt w e) (hb : ∀ i, e.v.ownBlock = some i → w'.heap[i]? = w.heap[i]?) : FileAt w' e := by
  obtain ⟨h1, h2, h3⟩ := h
  refine ⟨h1, h2, ?_⟩
  rcases h3 with h3 | ⟨q, cap, cur, hv, hg, hq, r⟩
  · exact .inl h3
  · exact .inr ⟨q, cap, cur, hv, hg, (hb q (by rw [hv]; rfl)).trans hq, r⟩
theorem own_of_block {w w' : World} {b n : Nat} {D : DataW Value} (h : w.ownsMap Tryz.prog 9 R1 b n D) (hb : w'.heap[b]? = w.heap[b]?) : w'.ownsMap Tryz.prog 9 R1 b n D := by
  obtain ⟨es, clock, h1, h2⟩ := h
  exact ⟨es, clock, hb.trans h1, h2⟩
theorem mem_blks {m : List Ent} {i : Nat} : i ∈ blks m ↔ ∃ e ∈ m, e.v.ownBlock = some i := by simp [blks]
theorem Im.lt {w : World} {g b : Nat} {m : List Ent} {t : St} (h : Im w g b m t) : ∀ i ∈ g :: b :: blks m, i < w.heap.size := by
  intro i hi
  simp only [List.mem_cons, mem_blks] at hi
  rcases hi with rfl | rfl | ⟨e, he, hv⟩
  · exact h.dsk.lt
  · exact h.own.lt
  · exact (h.file e he).lt hv
theorem Im.of_blocks {w w' : World} {g b : Nat} {m : List Ent} {t : St} (h : Im w g b m t) (hb : ∀ i ∈ g :: b :: blks m, w'.heap[i]? = w.heap[i]?) : Im w' g b m t :=
  ⟨Dsk.of_block h.dsk (hb g (by simp)), own_of_block h.own (hb b (by simp)), h.fs, fun e he => (h.file e he).of_block fun i hi => hb i (by simp only [List.mem_cons, mem_blks]; exact .inr (.inr ⟨e, he, hi⟩)), h.nodup, h.good, h.fl, h.al⟩
theorem Im.frame {S : List Nat} {w w' : World} {g b : Nat} {m : List Ent} {t : St} (h : Im w g b m t) (hf : Fr S w w') (hd : ∀ i ∈ S, i ∉ g :: b :: blks m) : Im w' g b m t :=
  h.of_blocks fun i hi => hf.block i (h.lt i hi) fun hs => hd i hs hi
theorem Im.below {w w' : World} {g b : Nat} {m : List Ent} {t : St} (h : Im w g b m t) (hb : Below w.heap.size w w') : Im w' g b m t := h.of_blocks fun i hi => hb.block i (h.lt i hi)

theorem keyed : Maps.Keyed Tryz.prog 9 := Maps.string_keyed Tryz.underlying9
def zeroF : Value := .agg #[.slice none 0 0, .int .i64 0]
theorem zeroF_run (w : World) : (zeroValue 77).run Tryz.prog w = .ok zeroF w := by kernel_rfl
def found (m : List Ent) (s : ByteArray) : Option Ent := get Ent.nm s.data.toList m
def foundV (m : List Ent) (s : ByteArray) : Value := ((found m s).map Ent.val).getD zeroF
theorem look2 {w : World} {b n : Nat} {m : List Ent} (h : w.ownsMap Tryz.prog 9 R1 b n (dOf m)) (s : ByteArray) (hs : s.size ≤ maxLen) :
    (Instr.lookup 50 (.map (some b)) (.string s) true).run Tryz.prog w = .ok (.tuple #[foundV m s, .bool (found m s).isSome]) w := by
  obtain ⟨v, ps, hrun, hv⟩ := h.look_ok keyed Tryz.underlying50 (zeroF_run w) (show R1 zeroF = some (.held zeroF, []) from rfl) (Go.WideMaps.keyOf_string_mk Tryz.underlying9 hs)
  rw [dOf_at, dOf_has] at *
  have : v = foundV m s := by
    unfold R1 at hv
    simp at hv
    exact hv.1
  rw [hrun, this]
  rfl
theorem look1 {w : World} {b n : Nat} {m : List Ent} (h : w.ownsMap Tryz.prog 9 R1 b n (dOf m)) (s : ByteArray) (hs : s.size ≤ maxLen) :
    (Instr.lookup 50 (.map (some b)) (.string s) false).run Tryz.prog w = .ok (foundV m s) w := by
  obtain ⟨v, ps, hrun, hv⟩ := h.lookup keyed Tryz.underlying50 (zeroF_run w) (show R1 zeroF = some (.held zeroF, []) from rfl) (Go.WideMaps.keyOf_string_mk Tryz.underlying9 hs)
  rw [dOf_at] at *
  have : v = foundV m s := by
    unfold R1 at hv
    simp at hv
    exact hv.1
  rw [hrun, this]
theorem tight {w : World} {b n : Nat} {m : List Ent} (h : w.ownsMap Tryz.prog 9 R1 b n (dOf m)) : w.ownsMap Tryz.prog 9 R1 b m.length (dOf m) := by
  obtain ⟨es, clock, h1, h2, h3, h4⟩ := h
  refine ⟨es, clock, h1, h2, ?_, h4⟩
  have := congrArg Maps.size h4
  rw [dOf_size] at this
  rw [this]
  simp [Maps.size, length_sorted]
theorem store1 {w : World} {b : Nat} {m : List Ent} (h : w.ownsMap Tryz.prog 9 R1 b m.length (dOf m)) (hm : m.length ≤ 1000000) (s : ByteArray) (hs : s.size ≤ maxLen) (e : Ent) (he : e.nm = s.data.toList) :
    ∃ w', (Instr.mapUpdate 50 (.map (some b)) (.string s) e.val).run Tryz.prog w = .ok () w' ∧ w'.ownsMap Tryz.prog 9 R1 b (put Ent.nm e m).length (dOf (put Ent.nm e m)) ∧ w.mapTurned w' b := by
  obtain ⟨w', h1, h2, h3⟩ := h.store keyed Tryz.underlying50 (by unfold maxLen; omega) (Go.WideMaps.keyOf_string_mk Tryz.underlying9 hs) (show R1 e.val = some (.held e.val, []) from rfl)
  rw [← he, dOf_put] at h2
  exact ⟨w', h1, tight h2, h3⟩
theorem drop1 {w : World} {b : Nat} {m : List Ent} (h : w.ownsMap Tryz.prog 9 R1 b m.length (dOf m)) (s : ByteArray) (hs : s.size ≤ maxLen) (ty : TypeId) :
    ∃ w', (Builtin.delete_ #[50, 9] ty #[.map (some b), .string s]).run Tryz.prog w = .ok (.tuple #[]) w' ∧ w'.ownsMap Tryz.prog 9 R1 b (del Ent.nm s.data.toList m).length (dOf (del Ent.nm s.data.toList m)) ∧ w.mapTurned w' b := by
  obtain ⟨w', h1, h2, h3⟩ := h.drop keyed Tryz.underlying50 (Go.WideMaps.keyOf_string_mk Tryz.underlying9 hs) ty
  rw [dOf_del] at h2
  exact ⟨w', h1, tight h2, h3⟩
theorem cell_past {w : World} {a : Addr} {v : Value} (h : w.cell? a = some v) (o : Obj) : (w.alloc o).cell? a = some v := (World.cell?_of_block (w := w) (Below.heap_alloc _ _ _ (lt_of_cell h))).trans h
theorem own_past {w : World} {b n : Nat} {D : DataW Value} (h : w.ownsMap Tryz.prog 9 R1 b n D) (o : Obj) : (w.alloc o).drew.ownsMap Tryz.prog 9 R1 b n D := (h.alloc o).drew

theorem blks_perm {a c : List Ent} (h : a.Perm c) : (blks a).Perm (blks c) := h.filterMap _
theorem blks_cons (e : Ent) (m : List Ent) : ∀ i, i ∈ blks (e :: m) ↔ e.v.ownBlock = some i ∨ i ∈ blks m := by
  intro i
  simp [mem_blks]
theorem blks_del {m : List Ent} {x : Nm} {i : Nat} (h : i ∈ blks (del Ent.nm x m)) : i ∈ blks m := by
  obtain ⟨e, he, hv⟩ := mem_blks.1 h
  exact mem_blks.2 ⟨e, (mem_del.1 he).1, hv⟩
theorem nodup_del {g b : Nat} {m : List Ent} (h : (g :: b :: blks m).Nodup) (x : Nm) : (g :: b :: blks (del Ent.nm x m)).Nodup := by
  refine h.sublist ?_
  exact ((List.filter_sublist.filterMap _).cons_cons b).cons_cons g
theorem nodup_put {g b : Nat} {m : List Ent} {e : Ent} (h : (g :: b :: blks m).Nodup) (hb : ∀ i, e.v.ownBlock = some i → i ∉ g :: b :: blks (del Ent.nm e.nm m)) : (g :: b :: blks (put Ent.nm e m)).Nodup := by
  have h1 := nodup_del h e.nm
  have hp : (blks (put Ent.nm e m)).Perm (blks (e :: del Ent.nm e.nm m)) := blks_perm (ins_perm _ _)
  rw [((hp.cons b).cons g).nodup_iff]
  cases hv : e.v.ownBlock with
  | none => simpa [blks, hv] using h1
  | some i =>
    have hi := hb i hv
    have hc : blks (e :: del Ent.nm e.nm m) = i :: blks (del Ent.nm e.nm m) := by simp [blks, hv]
    rw [hc]
    have : (i :: g :: b :: blks (del Ent.nm e.nm m)).Nodup := List.nodup_cons.2 ⟨hi, h1⟩
    refine (List.Perm.nodup_iff ?_).1 this
    exact ((List.Perm.swap g i _).trans ((List.Perm.swap b i _).cons g))
/-- the block of an entry is no other's -/
theorem apart {g b : Nat} {m : List Ent} {e : Ent} (h : (g :: b :: blks m).Nodup) (hu : Up Ent.nm m) (he : e ∈ m) {i : Nat} (hv : e.v.ownBlock = some i) : i ∉ g :: b :: blks (del Ent.nm e.nm m) := by
  have hp := ((blks_perm (perm_at hu he)).cons b).cons g
  rw [hp.nodup_iff] at h
  have hc : blks (e :: del Ent.nm e.nm m) = i :: blks (del Ent.nm e.nm m) := by simp [blks, hv]
  rw [hc] at h
  have h2 : (i :: g :: b :: blks (del Ent.nm e.nm m)).Nodup := by
    refine (List.Perm.nodup_iff ?_).2 h
    exact ((List.Perm.swap g i _).trans ((List.Perm.swap b i _).cons g))
  exact (List.nodup_cons.1 h2).1
theorem Im.up {w : World} {g b : Nat} {m : List Ent} {t : St} (h : Im w g b m t) : Up Ent.nm m := by
  have := h.good.up
  rw [h.fs] at this
  exact (map_up (k1 := Ent.nm) (k2 := Prod.fst) Ent.fil (fun _ => rfl)).1 this
theorem Im.get {w : World} {g b : Nat} {m : List Ent} {t : St} (h : Im w g b m t) (s : ByteArray) : fget s.data.toList t.fs = (found m s).map Ent.fil := by
  rw [h.fs]
  exact (map_get (k1 := Ent.nm) (k2 := Prod.fst) Ent.fil (fun _ => rfl) _ _).symm
theorem Im.len {w : World} {g b : Nat} {m : List Ent} {t : St} (h : Im w g b m t) : m.length = t.fs.length := by rw [h.fs]; simp
theorem Im.stored {w w' : World} {g b : Nat} {m : List Ent} {t t' : St} (h : Im w g b m t) (e : Ent) (hd : DskT w' g b t') (ho : w'.ownsMap Tryz.prog 9 R1 b (put Ent.nm e m).length (dOf (put Ent.nm e m)))
    (hfs : t'.fs = fput e.fil t.fs) (hgd : Good t') (hfe : FileAt w' e) (hfo : ∀ a ∈ m, a.nm ≠ e.nm → FileAt w' a) (hbl : ∀ i, e.v.ownBlock = some i → i ∉ g :: b :: blks (del Ent.nm e.nm m))
    (hfl : t'.fail = t.fail) (hal : t'.arm = t.arm) : Im w' g b (put Ent.nm e m) t' := by
  refine ⟨hd, ho, ?_, ?_, nodup_put h.nodup hbl, hgd, by rw [hfl]; exact h.fl, by rw [hal]; exact h.al⟩
  · rw [hfs, h.fs]
    exact (map_put (k1 := Ent.nm) (k2 := Prod.fst) Ent.fil (fun _ => rfl) _ _).symm
  · intro a ha
    rcases mem_put.1 ha with rfl | ⟨ha, hn⟩
    · exact hfe
    · exact hfo a ha hn
theorem Im.dropped {w w' : World} {g b : Nat} {m : List Ent} {t t' : St} (h : Im w g b m t) (x : Nm) (hd : DskT w' g b t') (ho : w'.ownsMap Tryz.prog 9 R1 b (del Ent.nm x m).length (dOf (del Ent.nm x m)))
    (hfs : t'.fs = fdel x t.fs) (hgd : Good t') (hfo : ∀ a ∈ m, FileAt w' a) (hfl : t'.fail = t.fail) (hal : t'.arm = t.arm) : Im w' g b (del Ent.nm x m) t' := by
  refine ⟨hd, ho, ?_, fun a ha => hfo a (mem_del.1 ha).1, nodup_del h.nodup x, hgd, by rw [hfl]; exact h.fl, by rw [hal]; exact h.al⟩
  rw [hfs, h.fs]
  exact (map_del (k1 := Ent.nm) (k2 := Prod.fst) Ent.fil (fun _ => rfl) _ _).symm

/-- what a call that may change the disk answers, and leaves -/
def Left (w : World) (g b : Nat) (m : List Ent) (t : St) (w' : World) : Prop := ∃ m', Im w' g b m' t ∧ Fr (g :: b :: blks m) w w' ∧ ∀ i ∈ blks m', i ∈ blks m ∨ w.heap.size ≤ i
def Did (w : World) (g b : Nat) (m : List Ent) (r : Int × St) (e : Ending) (w' : World) : Prop := e = .returned (.int .i64 r.1) ∧ Left w g b m r.2 w'
theorem Left.same {w : World} {g b : Nat} {m : List Ent} {t : St} (h : Im w g b m t) : Left w g b m t w := ⟨m, h, Fr.refl _ _, fun _ hi => .inl hi⟩
theorem Left.after {S : List Nat} {w w1 w' : World} {g b : Nat} {m : List Ent} {t : St} (hf : Fr S w w1) (hS : ∀ i ∈ S, i ∈ g :: b :: blks m) (h : Left w1 g b m t w') : Left w g b m t w' := by
  obtain ⟨m', h1, h2, h3⟩ := h
  refine ⟨m', h1, (hf.mono hS).same h2, fun i hi => ?_⟩
  rcases h3 i hi with h | h
  · exact .inl h
  · exact .inr (Nat.le_trans hf.size h)
theorem DskT.files {w : World} {g b : Nat} {t : St} (h : DskT w g b t) (fs : List Fil) (hf : total fs = total t.fs) : DskT w g b { t with fs := fs } := by
  unfold DskT at h ⊢
  simp only [hf]
  exact h
theorem Im.ne {w : World} {g b : Nat} {m : List Ent} {t : St} (h : Im w g b m t) : g ≠ b ∧ g ∉ blks m ∧ b ∉ blks m := by
  have := h.nodup
  simp only [List.nodup_cons, List.mem_cons, not_or] at this
  exact ⟨this.1.1, this.1.2, this.2.1⟩
theorem Im.chg {w w1 : World} {g b : Nat} {m : List Ent} {t : St} (h : Im w g b m t) (hd : DskT w1 g b (chg t).2) (hf : Fr [g] w w1) : Im w1 g b m (chg t).2 := by
  obtain ⟨n1, n2, n3⟩ := h.ne
  refine ⟨hd, own_of_block h.own (hf.block b h.own.lt (by simpa using Ne.symm n1)), by rw [(chg_same t).2]; exact h.fs, fun e he => (h.file e he).of_block fun i hi => hf.block i ((h.file e he).lt hi) (by
    intro hm
    simp only [List.mem_singleton] at hm
    exact n2 (mem_blks.2 ⟨e, he, by rw [← hm]; exact hi⟩)), h.nodup, h.good.chg, ?_, ?_⟩
  · have := h.fl
    unfold Dk.chg
    intro k
    split
    · exact this k
    · split
      · exact this k
      · split
        · intro h; cases h
        · intro hk
          simp only [Option.map_eq_some_iff] at hk
          obtain ⟨j, hj, rfl⟩ := hk
          have := this j hj
          omega
  · have := h.al
    unfold Dk.chg
    intro k
    split
    · exact this k
    · split
      · intro h; cases h
      · split <;>
        · intro hk
          simp only [Option.map_eq_some_iff] at hk
          obtain ⟨j, hj, rfl⟩ := hk
          have := this j hj
          omega
theorem modify_did (g b A n cap K : Nat) (caps : Array Value) (hen : ∀ w, (callFunc K caps).run Tryz.prog w = .ok (.enter K caps) w) (m : List Ent) (t : St) (ss : List ByteArray) (w : World) (h : Im w g b m t) (hr : RdS w (some ⟨A, 0, none⟩) n ss)
    (f : St → Int × St) (hc : ∀ w1, allN ss = true → Im w1 g b m (chg t).2 → Fr [g] w w1 → Calls Tryz.prog K caps w1 (Did w1 g b m (f (chg t).2))) :
    Calls Tryz.prog 55 #[.pointer (some ⟨g, 0, none⟩), .func (.func K) #[] caps, .slice (some ⟨A, 0, none⟩) n cap] w (Did w g b m (doing (allN ss) t f)) := by
  unfold doing
  cases hv : allN ss with
  | false =>
    refine (modify_name g A n cap _ ss w hr hv).mono ?_
    rintro e w' ⟨rfl, rfl⟩
    exact ⟨rfl, Left.same h⟩
  | true =>
    simp only [if_true]
    by_cases h0 : (chg t).1 = 0
    · rw [if_pos h0]
      refine (modify_made g b A n cap K caps hen t ss w h.dsk h.fl h.al hr hv h0 (fun r w' => r = (f (chg t).2).1 ∧ Left w g b m (f (chg t).2).2 w') ?_).mono ?_
      · intro w1 hd hf
        refine (hc w1 hv (h.chg hd hf) hf).mono ?_
        rintro e w2 ⟨rfl, hL⟩
        exact ⟨_, rfl, rfl, hL.after hf (by simp)⟩
      · rintro e w2 ⟨r, rfl, rfl, hL⟩
        exact ⟨rfl, hL⟩
    · rw [if_neg h0]
      refine (modify_fault g b A n cap t _ ss w h.dsk h.fl h.al hr hv h0).mono ?_
      rintro e w' ⟨rfl, hd, hf⟩
      exact ⟨rfl, m, h.chg hd hf, hf.mono (by simp), fun _ hi => .inl hi⟩
theorem rds_one (w : World) (s : ByteArray) : RdS (w.alloc (.cells #[.string s] 9)) (some ⟨w.heap.size, 0, none⟩) 1 [s] := by
  refine ⟨rfl, by omega, fun _ => ⟨_, _, rfl, fun i hi => ?_⟩⟩
  obtain rfl : i = 0 := by omega
  rw [World.cell?_alloc_mark]
  rfl
theorem rds_two (w : World) (s u : ByteArray) : RdS (w.alloc (.cells #[.string s, .string u] 9)) (some ⟨w.heap.size, 0, none⟩) 2 [s, u] := by
  refine ⟨rfl, by omega, fun _ => ⟨_, _, rfl, fun i hi => ?_⟩⟩
  rw [World.cell?_alloc_mark, Nat.zero_add]
  rcases (show i = 0 ∨ i = 1 from by omega) with rfl | rfl <;> rfl
theorem allN_one (s : ByteArray) : allN [s] = okN s.data.toList := by simp [allN]
theorem allN_two (s u : ByteArray) : allN [s, u] = (okN s.data.toList && okN u.data.toList) := by simp [allN]
theorem size_of_ok {s : ByteArray} (h : okN s.data.toList = true) : s.size ≤ maxLen := by
  unfold okN at h
  simp only [Bool.and_eq_true, decide_eq_true_eq, len_data] at h
  unfold maxLen
  omega
theorem new_cell (w : World) (v : Value) (ty : TypeId) : (w.alloc (.cells #[v] ty)).cell? ⟨w.heap.size, 0, none⟩ = some v := by
  rw [World.cell?_alloc_mark]
  rfl
theorem size_up (w : World) (o : Obj) : (w.alloc o).heap.size = w.heap.size + 1 := by simp
theorem below3 (w : World) (o1 o2 o3 : Obj) : Below w.heap.size w (((w.alloc o1).alloc o2).alloc o3) := (((Below.refl _ w).alloc (Nat.le_refl _) o1).alloc (by simp) o2).alloc (by simp; omega) o3
theorem below4 (w : World) (o1 o2 o3 o4 : Obj) : Below w.heap.size w ((((w.alloc o1).alloc o2).alloc o3).alloc o4) := (below3 w o1 o2 o3).alloc (by simp; omega) o4
/-- a cell of a block that a call has not touched -/
theorem Fr.cell {S : List Nat} {w w' : World} {a : Addr} {v : Value} (h : Fr S w w') (hc : w.cell? a = some v) (hS : a.block ∉ S) : w'.cell? a = some v :=
  (World.cell?_of_block (w := w) (h.block _ (lt_of_cell hc) hS)).trans hc
/-- a method of one name -/
theorem mod1 (K g b : Nat) (hen : ∀ caps w, (callFunc K caps).run Tryz.prog w = .ok (.enter K caps) w) (m : List Ent) (t : St) (s : ByteArray) (w : World) (h : Im w g b m t) (f : St → Int × St)
    (hc : ∀ bd bn w1, Im w1 g b m (chg t).2 → s.size ≤ maxLen → okN s.data.toList = true → w1.cell? ⟨bd, 0, none⟩ = some (.pointer (some ⟨g, 0, none⟩)) → w1.cell? ⟨bn, 0, none⟩ = some (.string s) → Calls Tryz.prog K #[.pointer (some ⟨bd, 0, none⟩), .pointer (some ⟨bn, 0, none⟩)] w1 (Did w1 g b m (f (chg t).2))) :
    Calls Tryz.prog 55 #[.pointer (some ⟨g, 0, none⟩), .func (.func K) #[] #[.pointer (some ⟨w.heap.size, 0, none⟩), .pointer (some ⟨w.heap.size + 1, 0, none⟩)], .slice (some ⟨w.heap.size + 1 + 1, 0, none⟩) 1 1]
      (((w.alloc (.cells #[.pointer (some ⟨g, 0, none⟩)] 29)).alloc (.cells #[.string s] 9)).alloc (.cells #[.string s] 9)) (Did w g b m (doing (okN s.data.toList) t f)) := by
  have hb := below3 w (.cells #[.pointer (some ⟨g, 0, none⟩)] 29) (.cells #[.string s] 9) (.cells #[.string s] 9)
  have hI := h.below hb
  have hr := rds_one ((w.alloc (.cells #[.pointer (some ⟨g, 0, none⟩)] 29)).alloc (.cells #[.string s] 9)) s
  rw [size_up, size_up] at hr
  have hd := cell_past (cell_past (new_cell w (.pointer (some ⟨g, 0, none⟩)) 29) (.cells #[.string s] 9)) (.cells #[.string s] 9)
  have hn := cell_past (new_cell (w.alloc (.cells #[.pointer (some ⟨g, 0, none⟩)] 29)) (.string s) 9) (.cells #[.string s] 9)
  rw [size_up] at hn
  have hg := h.dsk.lt
  generalize (((w.alloc (.cells #[.pointer (some ⟨g, 0, none⟩)] 29)).alloc (.cells #[.string s] 9)).alloc (.cells #[.string s] 9)) = W at *
  refine (modify_did g b _ 1 1 _ _ (hen _) m t [s] W hI hr f ?_).mono ?_
  · intro w1 hv hI1 hf
    rw [allN_one] at hv
    exact hc _ _ w1 hI1 (size_of_ok hv) hv (hf.cell hd (by simp; omega)) (hf.cell hn (by simp; omega))
  · rintro e w' ⟨rfl, hL⟩
    rw [allN_one] at *
    exact ⟨rfl, hL.after (Fr.below (S := []) hb) (by simp)⟩
/-- a method of two names -/
theorem mod2 (K g b : Nat) (hen : ∀ caps w, (callFunc K caps).run Tryz.prog w = .ok (.enter K caps) w) (m : List Ent) (t : St) (s u : ByteArray) (w : World) (h : Im w g b m t) (f : St → Int × St)
    (hc : ∀ bd bn bu w1, Im w1 g b m (chg t).2 → okN s.data.toList = true → okN u.data.toList = true → (bd ∉ g :: b :: blks m) → (bn ∉ g :: b :: blks m) → (bu ∉ g :: b :: blks m) → w1.cell? ⟨bd, 0, none⟩ = some (.pointer (some ⟨g, 0, none⟩)) → w1.cell? ⟨bn, 0, none⟩ = some (.string s) → w1.cell? ⟨bu, 0, none⟩ = some (.string u) →
      Calls Tryz.prog K #[.pointer (some ⟨bd, 0, none⟩), .pointer (some ⟨bn, 0, none⟩), .pointer (some ⟨bu, 0, none⟩)] w1 (Did w1 g b m (f (chg t).2))) :
    Calls Tryz.prog 55 #[.pointer (some ⟨g, 0, none⟩), .func (.func K) #[] #[.pointer (some ⟨w.heap.size, 0, none⟩), .pointer (some ⟨w.heap.size + 1, 0, none⟩), .pointer (some ⟨w.heap.size + 1 + 1, 0, none⟩)], .slice (some ⟨w.heap.size + 1 + 1 + 1, 0, none⟩) 2 2]
      ((((w.alloc (.cells #[.pointer (some ⟨g, 0, none⟩)] 29)).alloc (.cells #[.string s] 9)).alloc (.cells #[.string u] 9)).alloc (.cells #[.string s, .string u] 9)) (Did w g b m (doing (okN s.data.toList && okN u.data.toList) t f)) := by
  have hb := below4 w (.cells #[.pointer (some ⟨g, 0, none⟩)] 29) (.cells #[.string s] 9) (.cells #[.string u] 9) (.cells #[.string s, .string u] 9)
  have hI := h.below hb
  have hr := rds_two (((w.alloc (.cells #[.pointer (some ⟨g, 0, none⟩)] 29)).alloc (.cells #[.string s] 9)).alloc (.cells #[.string u] 9)) s u
  rw [size_up, size_up, size_up] at hr
  have hd := cell_past (cell_past (cell_past (new_cell w (.pointer (some ⟨g, 0, none⟩)) 29) (.cells #[.string s] 9)) (.cells #[.string u] 9)) (.cells #[.string s, .string u] 9)
  have hn := cell_past (cell_past (new_cell (w.alloc (.cells #[.pointer (some ⟨g, 0, none⟩)] 29)) (.string s) 9) (.cells #[.string u] 9)) (.cells #[.string s, .string u] 9)
  have hu := cell_past (new_cell ((w.alloc (.cells #[.pointer (some ⟨g, 0, none⟩)] 29)).alloc (.cells #[.string s] 9)) (.string u) 9) (.cells #[.string s, .string u] 9)
  rw [size_up] at hn
  rw [size_up, size_up] at hu
  have hlt := h.lt
  have hg := h.dsk.lt
  generalize ((((w.alloc (.cells #[.pointer (some ⟨g, 0, none⟩)] 29)).alloc (.cells #[.string s] 9)).alloc (.cells #[.string u] 9)).alloc (.cells #[.string s, .string u] 9)) = W at *
  refine (modify_did g b _ 2 2 _ _ (hen _) m t [s, u] W hI hr f ?_).mono ?_
  · intro w1 hv hI1 hf
    rw [allN_two, Bool.and_eq_true] at hv
    exact hc _ _ _ w1 hI1 hv.1 hv.2 (fun hi => by have := hlt _ hi; omega) (fun hi => by have := hlt _ hi; omega) (fun hi => by have := hlt _ hi; omega) (hf.cell hd (by simp; omega)) (hf.cell hn (by simp; omega)) (hf.cell hu (by simp; omega))
  · rintro e w' ⟨rfl, hL⟩
    rw [allN_two] at *
    exact ⟨rfl, hL.after (Fr.below (S := []) hb) (by simp)⟩
/-- Append -/
theorem mod3 (K g b : Nat) (hen : ∀ caps w, (callFunc K caps).run Tryz.prog w = .ok (.enter K caps) w) (m : List Ent) (t : St) (s : ByteArray) (bv : Value) (w : World) (h : Im w g b m t) (f : St → Int × St)
    (hc : ∀ bd bb bn W w1, Im w1 g b m (chg t).2 → Below w.heap.size w W → Fr [g] W w1 → okN s.data.toList = true → (bd ∉ g :: b :: blks m) → (bb ∉ g :: b :: blks m) → (bn ∉ g :: b :: blks m) → w1.cell? ⟨bd, 0, none⟩ = some (.pointer (some ⟨g, 0, none⟩)) → w1.cell? ⟨bb, 0, none⟩ = some bv → w1.cell? ⟨bn, 0, none⟩ = some (.string s) →
      Calls Tryz.prog K #[.pointer (some ⟨bd, 0, none⟩), .pointer (some ⟨bb, 0, none⟩), .pointer (some ⟨bn, 0, none⟩)] w1 (Did w1 g b m (f (chg t).2))) :
    Calls Tryz.prog 55 #[.pointer (some ⟨g, 0, none⟩), .func (.func K) #[] #[.pointer (some ⟨w.heap.size, 0, none⟩), .pointer (some ⟨w.heap.size + 1 + 1, 0, none⟩), .pointer (some ⟨w.heap.size + 1, 0, none⟩)], .slice (some ⟨w.heap.size + 1 + 1 + 1, 0, none⟩) 1 1]
      ((((w.alloc (.cells #[.pointer (some ⟨g, 0, none⟩)] 29)).alloc (.cells #[.string s] 9)).alloc (.cells #[bv] 45)).alloc (.cells #[.string s] 9)) (Did w g b m (doing (okN s.data.toList) t f)) := by
  have hb := below4 w (.cells #[.pointer (some ⟨g, 0, none⟩)] 29) (.cells #[.string s] 9) (.cells #[bv] 45) (.cells #[.string s] 9)
  have hI := h.below hb
  have hr := rds_one (((w.alloc (.cells #[.pointer (some ⟨g, 0, none⟩)] 29)).alloc (.cells #[.string s] 9)).alloc (.cells #[bv] 45)) s
  rw [size_up, size_up, size_up] at hr
  have hd := cell_past (cell_past (cell_past (new_cell w (.pointer (some ⟨g, 0, none⟩)) 29) (.cells #[.string s] 9)) (.cells #[bv] 45)) (.cells #[.string s] 9)
  have hn := cell_past (cell_past (new_cell (w.alloc (.cells #[.pointer (some ⟨g, 0, none⟩)] 29)) (.string s) 9) (.cells #[bv] 45)) (.cells #[.string s] 9)
  have hu := cell_past (new_cell ((w.alloc (.cells #[.pointer (some ⟨g, 0, none⟩)] 29)).alloc (.cells #[.string s] 9)) bv 45) (.cells #[.string s] 9)
  rw [size_up] at hn
  rw [size_up, size_up] at hu
  have hlt := h.lt
  have hg := h.dsk.lt
  generalize ((((w.alloc (.cells #[.pointer (some ⟨g, 0, none⟩)] 29)).alloc (.cells #[.string s] 9)).alloc (.cells #[bv] 45)).alloc (.cells #[.string s] 9)) = W at *
  refine (modify_did g b _ 1 1 _ _ (hen _) m t [s] W hI hr f ?_).mono ?_
  · intro w1 hv hI1 hf
    rw [allN_one] at hv
    exact hc _ _ _ W w1 hI1 hb hf hv (fun hi => by have := hlt _ hi; omega) (fun hi => by have := hlt _ hi; omega) (fun hi => by have := hlt _ hi; omega) (hf.cell hd (by simp; omega)) (hf.cell hu (by simp; omega)) (hf.cell hn (by simp; omega))
  · rintro e w' ⟨rfl, hL⟩
    rw [allN_one] at *
    exact ⟨rfl, hL.after (Fr.below (S := []) hb) (by simp)⟩
end Go.Proofs.YtgmpdifggaggdaaGreatDoor.Dk

namespace Go.Proofs.YtgmpdifggaggdaaGreatDoor.Dk
open Go.RowKit Go.Proofs.YtgmpdifggaggdaaGreatDoor.Fld

theorem field0 (A : Option Addr) (n cap : Nat) (k : Int) (w : World) : (Instr.field 77 (.agg #[.slice A n cap, .int .i64 k]) 0).run Tryz.prog w = .ok (.slice A n cap) w := by kernel_rfl
theorem FileAt.form {w : World} {e : Ent} (h : FileAt w e) : ∃ A cap, e.v = .slice A e.zs.length cap ∧ Sl w A e.zs.length cap e.zs := by
  obtain ⟨hby, hl, h⟩ := h
  rcases h with ⟨hv, h0⟩ | ⟨q, cap, cur, hv, _, hh, hnc, hcm, hcs, hcu⟩
  · refine ⟨none, 0, by rw [hv, h0], ?_⟩
    have : e.zs = [] := List.eq_nil_of_length_eq_zero h0
    rw [this]
    exact Sl.nil w
  · refine ⟨_, cap, hv, ⟨rfl, by omega, hby, fun hp => ⟨q, 0, rfl, fun i hi => ?_⟩⟩, hnc, hcm, (fun h => by cases h), (fun a ha => by injection ha with ha; subst ha; rfl)⟩
    rw [Nat.zero_add, cell_of_row w q i cur _ (0, 0) hh, ← by8_at e.zs i hi, ← hcu]
    rw [List.getElem?_take, if_pos (by omega), Array.getElem?_toList]
/-- what is looked up is a file, or the zero one -/
theorem Im.foundV {w : World} {g b : Nat} {m : List Ent} {t : St} (h : Im w g b m t) (s : ByteArray) :
    ∃ A n cap k, foundV m s = .agg #[.slice A n cap, .int .i64 k] ∧ total t.fs = n + total (fdel s.data.toList t.fs) := by
  unfold Dk.foundV
  cases hf : found m s with
  | none =>
    refine ⟨none, 0, 0, 0, rfl, ?_⟩
    rw [total_del_none (by rw [h.get, hf]; rfl)]
    omega
  | some e =>
    obtain ⟨he1, he2⟩ := get_some hf
    obtain ⟨A, cap, hv, _⟩ := (h.file e he1).form
    refine ⟨A, e.zs.length, cap, e.s, by rw [Option.map_some, Option.getD_some, Ent.val, hv], ?_⟩
    exact total_del (f := e.fil) h.good.up (by rw [h.get, hf]; rfl)
set_option maxRecDepth 100000 in
set_option maxHeartbeats 3200000 in
theorem remove_any (g b : Nat) (m : List Ent) (t : St) (s : ByteArray) (w : World) (h : Im w g b m t) (hs : s.size ≤ maxLen) :
    Calls Tryz.prog 57 #[.pointer (some ⟨g, 0, none⟩), .string s] w fun e w' => e = .returned (.tuple #[]) ∧ Im w' g b (del Ent.nm s.data.toList m) { t with fs := fdel s.data.toList t.fs } ∧ Fr [g, b] w w' := by
  have HI := Lib.hid h
  obtain ⟨A, n, cap, k, hfv, htot⟩ := h.foundV s
  have hfit := h.good.fits
  have hrm := h.good.room2
  obtain ⟨c0, c1, c2, c3, c4, c5, c6, c7⟩ := Dsk.cells h.dsk
  have f2 := Dsk.free h.dsk 2
  have hlk := look1 h.own.drew s hs
  rw [hfv] at hlk
  have HTT := Lib.hid htot
  obtain ⟨n1, n2, n3⟩ := h.ne
  have hset : Dsk ((w.setCell ⟨g, 2, none⟩ (.int .i64 ((total (fdel s.data.toList t.fs) : Nat) : Int))).drew) g _ b _ _ _ _ _ _ := Dsk.set2 (w := w) h.dsk _
  have hown1 : ((w.setCell ⟨g, 2, none⟩ (.int .i64 ((total (fdel s.data.toList t.fs) : Nat) : Int))).drew).ownsMap Tryz.prog 9 R1 b m.length (dOf m) := (h.own.setCell (a := ⟨g, 2, none⟩) (Ne.symm n1) _).drew
  obtain ⟨w2, hdl, hown2, hturn⟩ := drop1 hown1 s hs 0
  have hfr : Fr [g, b] w w2 := ((Fr.refl [g, b] w).setCell ⟨g, 2, none⟩ (.inl (by simp)) (.int .i64 ((total (fdel s.data.toList t.fs) : Nat) : Int))).drew.turned hturn (.inl (by simp))
  have HF := Lib.hid hfr
  have HIM := Lib.hid (show Im w2 g b (del Ent.nm s.data.toList m) { t with fs := fdel s.data.toList t.fs } from by
    refine h.dropped s.data.toList ?_ hown2 rfl (h.good.del _) ?_ rfl rfl
    · exact Dsk.of_block hset (hturn.grown.block g (by have := h.dsk.lt; simpa [World.setCell] using this) (by simpa using n1))
    · exact fun a ha => (h.file a ha).of_block fun i hi => hfr.block i ((h.file a ha).lt hi) (by
        have : i ∈ blks m := mem_blks.2 ⟨a, ha, hi⟩
        intro hm
        simp only [List.mem_cons, List.not_mem_nil, or_false] at hm
        rcases hm with rfl | rfl
        · exact n2 this
        · exact n3 this))
  generalize total (fdel s.data.toList t.fs) = T2 at *
  generalize total t.fs = T at *
  have e1 : (T : Int) - (n : Int) = (T2 : Int) := by omega
  clear htot
  have e2 : IntKind.i64.wrap (T2 : Int) = (T2 : Int) := IntWalk.i64_in _ (by omega)
  clear h hown1 hown2 hturn hset hfv hfr
  have hfd := field0 A n cap k
  go_enter Tryz.func57, Tryz.ntmps57
  go_wp2_with fail
  go_region
  go_wp2
  go_end0
  exact ⟨rfl, HIM.out, HF.out⟩

set_option maxRecDepth 100000 in
set_option maxHeartbeats 3200000 in
theorem unl1_did (g b bd bn : Nat) (m : List Ent) (t : St) (s : ByteArray) (w : World) (h : Im w g b m t) (hs : s.size ≤ maxLen) (hd : w.cell? ⟨bd, 0, none⟩ = some (.pointer (some ⟨g, 0, none⟩))) (hn : w.cell? ⟨bn, 0, none⟩ = some (.string s)) :
    Calls Tryz.prog 56 #[.pointer (some ⟨bd, 0, none⟩), .pointer (some ⟨bn, 0, none⟩)] w (Did w g b m (unl1 s.data.toList t)) := by
  have hun : unl1 s.data.toList t = if (found m s).isSome then (0, { t with fs := fdel s.data.toList t.fs }) else (2, t) := by
    unfold unl1
    rw [h.get]
    cases found m s <;> rfl
  rw [hun]
  clear hun
  have HI := Lib.hid h
  obtain ⟨A, n, cap, k, hfv, _⟩ := h.foundV s
  obtain ⟨c0, c1, c2, c3, c4, c5, c6, c7⟩ := Dsk.cells h.dsk
  have hlk := look2 h.own.drew s hs
  have hlo := fun o => look2 (own_past h.own o) s hs
  rw [hfv] at hlk
  simp only [hfv] at hlo
  have pd := fun o => cell_past hd o
  have pn := fun o => cell_past hn o
  have p1 := fun o => cell_past c1 o
  clear h hfv
  have hbw : ∀ o, Below w.heap.size w (w.alloc o).drew := fun o => ((Below.refl _ _).alloc (Nat.le_refl _) o).drew
  have HB := Lib.hid hbw
  clear hbw
  cases hf : (found m s).isSome with
  | false =>
    rw [hf] at hlk
    simp only [hf] at hlo
    rw [if_neg (by simp)]
    go_enter Tryz.func56, Tryz.ntmps56
    go_wp2_with fail
    go_region
    go_wp2
    go_ret
    exact ⟨rfl, m, HI.out.below (HB.out _), Fr.below (HB.out _), fun _ hi => .inl hi⟩
  | true =>
    rw [hf] at hlk
    simp only [hf] at hlo
    rw [if_pos rfl]
    have HR := Lib.hid (fun o => remove_any g b m t s _ (HI.out.below (HB.out o)) hs)
    go_enter Tryz.func56, Tryz.ntmps56
    go_wp2_with fail
    go_region
    go_wp2_with (go_at_call 57; refine (HR.out _).mono ?_; rintro e w' ⟨rfl, hI, hF⟩; have HI2 := Lib.hid hI; have HF2 := Lib.hid hF; clear hI hF)
    go_ret
    refine ⟨rfl, _, HI2.out, ((Fr.below (S := g :: b :: blks m) (HB.out _)).same (HF2.out.mono (by simp))), fun i hi => .inl (blks_del hi)⟩
theorem unl_enters (caps : Array Value) (w : World) : (callFunc 56 caps).run Tryz.prog w = .ok (.enter 56 caps) w := enters_of Tryz.func56 (by kernel_rfl) rfl caps w
set_option maxRecDepth 100000 in
set_option maxHeartbeats 3200000 in
theorem unl_did (g b : Nat) (m : List Ent) (t : St) (s : ByteArray) (w : World) (h : Im w g b m t) :
    Calls Tryz.prog 28 #[.pointer (some ⟨g, 0, none⟩), .string s] w (Did w g b m (stUnlink s.data.toList t)) := by
  have HM := Lib.hid (mod1 _ g b unl_enters m t s w h (unl1 s.data.toList) fun bd bn w1 hI hs _ hd hn => unl1_did g b bd bn m _ s w1 hI hs hd hn)
  clear h
  unfold stUnlink
  generalize doing (okN s.data.toList) t (unl1 s.data.toList) = r at *
  go_enter Tryz.func28, Tryz.ntmps28
  go_wp2_with (go_at_call 55; refine HM.out.mono ?_; rintro e w' ⟨rfl, hL⟩; have HL := Lib.hid hL; clear hL)
  go_ret
  exact ⟨rfl, HL.out⟩
end Go.Proofs.YtgmpdifggaggdaaGreatDoor.Dk

namespace Go.Proofs.YtgmpdifggaggdaaGreatDoor.Dk
open Go.RowKit Go.Proofs.YtgmpdifggaggdaaGreatDoor.Fld

set_option maxRecDepth 100000 in
set_option maxHeartbeats 3200000 in
theorem sync_none (g b bd bn : Nat) (m : List Ent) (t : St) (s : ByteArray) (w : World) (h : Im w g b m t) (hs : s.size ≤ maxLen) (hd : w.cell? ⟨bd, 0, none⟩ = some (.pointer (some ⟨g, 0, none⟩))) (hn : w.cell? ⟨bn, 0, none⟩ = some (.string s)) (hf : found m s = none) :
    Calls Tryz.prog 69 #[.pointer (some ⟨bd, 0, none⟩), .pointer (some ⟨bn, 0, none⟩)] w (Did w g b m (2, t)) := by
  have HI := Lib.hid h
  obtain ⟨c0, c1, c2, c3, c4, c5, c6, c7⟩ := Dsk.cells h.dsk
  have hlk := look2 h.own.drew s hs
  have hlo := fun o => look2 (own_past h.own o) s hs
  have hfv : foundV m s = zeroF := by unfold foundV; rw [hf]; rfl
  simp only [hfv, hf] at hlk hlo
  unfold zeroF at hlk hlo
  have pd := fun o => cell_past hd o
  have pn := fun o => cell_past hn o
  have p1 := fun o => cell_past c1 o
  clear h hfv
  go_enter Tryz.func69, Tryz.ntmps69
  go_wp2_with fail
  go_region
  go_wp2
  go_ret
  exact ⟨rfl, m, HI.out.below (((Below.refl _ _).alloc (Nat.le_refl _) _).drew), Fr.below (((Below.refl _ _).alloc (Nat.le_refl _) _).drew), fun _ hi => .inl hi⟩
theorem sync_end {w w3 : World} {g b : Nat} {m : List Ent} {t : St} {s : ByteArray} {e : Ent} (h : Im w g b m t) (hf : found m s = some e) (o : Obj) (hturn : ((w.alloc o).drew.drew).mapTurned w3 b)
    (ho : w3.ownsMap Tryz.prog 9 R1 b (put Ent.nm ⟨s.data.toList, e.v, e.zs, e.zs.length⟩ m).length (dOf (put Ent.nm ⟨s.data.toList, e.v, e.zs, e.zs.length⟩ m))) : Left w g b m { t with fs := fput (s.data.toList, e.zs, e.zs.length) t.fs } w3 := by
  obtain ⟨he1, he2⟩ := get_some hf
  have hg : fget s.data.toList t.fs = some e.fil := by rw [h.get, hf]; rfl
  have hfr : Fr [b] w w3 := (((Fr.refl [b] w).alloc o).drew.drew).turned hturn (.inl (by simp))
  obtain ⟨n1, n2, n3⟩ := h.ne
  have hblk : ∀ a ∈ m, FileAt w3 a := fun a ha => (h.file a ha).of_block fun i hi => hfr.block i ((h.file a ha).lt hi) (by
    intro hm
    simp only [List.mem_singleton] at hm
    exact n3 (mem_blks.2 ⟨a, ha, by rw [← hm]; exact hi⟩))
  refine ⟨_, h.stored ⟨s.data.toList, e.v, e.zs, e.zs.length⟩ ?_ ho rfl (h.good.sync hg) (hblk e he1) (fun a ha _ => hblk a ha) ?_ rfl rfl, hfr.mono (by simp), ?_⟩
  · refine DskT.files (t := t) ?_ _ (total_sync h.good hg _)
    exact Dsk.of_block h.dsk (hfr.block g h.dsk.lt (by simpa using n1))
  · intro i hi
    have := apart h.nodup h.up he1 hi
    rw [he2] at this
    exact this
  · intro i hi
    obtain ⟨a, ha, hv⟩ := mem_blks.1 hi
    rcases mem_put.1 ha with rfl | ⟨ha, _⟩
    · exact .inl (mem_blks.2 ⟨e, he1, hv⟩)
    · exact .inl (mem_blks.2 ⟨a, ha, hv⟩)
set_option maxRecDepth 100000 in
set_option maxHeartbeats 3200000 in
theorem sync_ok (g b bd bn : Nat) (m : List Ent) (t : St) (s : ByteArray) (e : Ent) (w : World) (h : Im w g b m t) (hm : t.fs.length ≤ 1000000) (hs : s.size ≤ maxLen) (hd : w.cell? ⟨bd, 0, none⟩ = some (.pointer (some ⟨g, 0, none⟩))) (hn : w.cell? ⟨bn, 0, none⟩ = some (.string s)) (hf : found m s = some e) :
    Calls Tryz.prog 69 #[.pointer (some ⟨bd, 0, none⟩), .pointer (some ⟨bn, 0, none⟩)] w (Did w g b m (0, { t with fs := fput (s.data.toList, e.zs, e.zs.length) t.fs })) := by
  have HI := Lib.hid h
  obtain ⟨he1, he2⟩ := get_some hf
  have hfile := h.file e he1
  obtain ⟨A, cap, hv⟩ : ∃ A cap, e.v = .slice A e.zs.length cap := by
    rcases hfile.2.2 with ⟨hv, h0⟩ | ⟨q, cap, cur, hv, _⟩
    · exact ⟨none, 0, by rw [hv, h0]⟩
    · exact ⟨_, cap, hv⟩
  obtain ⟨c0, c1, c2, c3, c4, c5, c6, c7⟩ := Dsk.cells h.dsk
  have hlk := look2 h.own.drew s hs
  have hlo := fun o => look2 (own_past h.own o) s hs
  have hfv : foundV m s = .agg #[.slice A e.zs.length cap, .int .i64 (e.s : Int)] := by unfold foundV; rw [hf, Option.map_some, Option.getD_some, Ent.val, hv]
  simp only [hfv, hf] at hlk hlo
  have pd := fun o => cell_past hd o
  have pn := fun o => cell_past hn o
  have p1 := fun o => cell_past c1 o
  obtain ⟨w3, hup, hown3, hturn⟩ := store1 (((h.own.alloc (.cells #[.slice A e.zs.length cap, .int .i64 (e.zs.length : Int)] 77)).drew).drew) (by rw [h.len]; exact hm) s hs ⟨s.data.toList, e.v, e.zs, e.zs.length⟩ rfl
  unfold Ent.val at hup
  simp only [hv] at hup
  have HL := Lib.hid (sync_end h hf _ hturn hown3)
  clear h hfv hown3 hturn hv hfile hf he1 he2 HI
  generalize hst : ({ t with fs := fput (s.data.toList, e.zs, e.zs.length) t.fs } : St) = t' at *
  clear hst
  generalize e.zs.length = n at *
  go_enter Tryz.func69, Tryz.ntmps69
  go_wp2_with fail
  go_region
  go_wp2_with fail
  go_region
  go_wp2
  go_ret
  exact ⟨rfl, HL.out⟩

theorem sync1_did (g b bd bn : Nat) (m : List Ent) (t : St) (s : ByteArray) (w : World) (h : Im w g b m t) (hm : t.fs.length ≤ 1000000) (hs : s.size ≤ maxLen) (hd : w.cell? ⟨bd, 0, none⟩ = some (.pointer (some ⟨g, 0, none⟩))) (hn : w.cell? ⟨bn, 0, none⟩ = some (.string s)) :
    Calls Tryz.prog 69 #[.pointer (some ⟨bd, 0, none⟩), .pointer (some ⟨bn, 0, none⟩)] w (Did w g b m (sync1 s.data.toList t)) := by
  unfold sync1
  rw [h.get]
  cases hf : found m s with
  | none => exact sync_none g b bd bn m t s w h hs hd hn hf
  | some e => exact sync_ok g b bd bn m t s e w h hm hs hd hn hf
theorem sync_enters (caps : Array Value) (w : World) : (callFunc 69 caps).run Tryz.prog w = .ok (.enter 69 caps) w := enters_of Tryz.func69 (by kernel_rfl) rfl caps w
set_option maxRecDepth 100000 in
set_option maxHeartbeats 3200000 in
theorem sync_did (g b : Nat) (m : List Ent) (t : St) (s : ByteArray) (w : World) (h : Im w g b m t) (hm : t.fs.length ≤ 1000000) :
    Calls Tryz.prog 43 #[.pointer (some ⟨g, 0, none⟩), .string s] w (Did w g b m (stSync s.data.toList t)) := by
  have HI := Lib.hid h
  clear h
  go_enter Tryz.func43, Tryz.ntmps43
  have HM := Lib.hid (mod1 _ g b sync_enters m t s w HI.out (sync1 s.data.toList) fun bd bn w1 hI hs _ hd hn => sync1_did g b bd bn m _ s w1 hI (by rw [(chg_same t).2]; exact hm) hs hd hn)
  unfold stSync
  generalize doing (okN s.data.toList) t (sync1 s.data.toList) = r at *
  go_wp2_with (go_at_call 55; refine HM.out.mono ?_; rintro e w' ⟨rfl, hL⟩; have HL := Lib.hid hL; clear hL)
  go_ret
  exact ⟨rfl, HL.out⟩
end Go.Proofs.YtgmpdifggaggdaaGreatDoor.Dk
