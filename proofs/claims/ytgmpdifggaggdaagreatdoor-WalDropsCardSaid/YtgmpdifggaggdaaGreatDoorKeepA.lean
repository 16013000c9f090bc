/-
  Layer 7: writing a file whole, in the program: slices.Contains of strings, write. Conditions: the disk lies in memory as it was made, and the bytes are no part of it.
-/
import Derived.Test.YtgmpdifggaggdaaGreatDoorJDiskSn
import Derived.Test.YtgmpdifggaggdaaGreatDoorKeepMath
import Derived.Laws.Concat
namespace Go.Proofs.YtgmpdifggaggdaaGreatDoor.Kp
open Go.RowKit Go.Proofs.YtgmpdifggaggdaaGreatDoor.Dk Go.Proofs.YtgmpdifggaggdaaGreatDoor.Fld
set_option linter.unusedVariables false

def hasS (ss : List ByteArray) (s : ByteArray) : Bool := ss.any fun x => s.toList == x.toList
theorem hasS_take (ss : List ByteArray) (s : ByteArray) (k : Nat) (h : k < ss.length) : hasS (ss.take (k + 1)) s = (hasS (ss.take k) s || (s.toList == (ss.getD k ⟨#[]⟩).toList)) := by
  unfold hasS
  rw [List.take_add_one, List.getElem?_eq_getElem h, List.any_append, List.getD_eq_getElem?_getD, List.getElem?_eq_getElem h]
  simp
theorem hasS_at (ss : List ByteArray) (s : ByteArray) (k : Nat) (h : k < ss.length) (hb : (s.toList == (ss.getD k ⟨#[]⟩).toList) = true) : hasS ss s = true := by
  unfold hasS
  rw [List.any_eq_true]
  refine ⟨ss[k], List.getElem_mem h, ?_⟩
  rw [List.getD_eq_getElem?_getD, List.getElem?_eq_getElem h] at hb
  exact hb
set_option maxRecDepth 100000 in
set_option maxHeartbeats 800000 in
theorem index_any (A : Option Addr) (n cap : Nat) (ss : List ByteArray) (s : ByteArray) (w : World) (hr : RdS w A n ss) : Calls Tryz.prog 64 #[.slice A n cap, .string s] w fun e w' => ∃ k : Int, e = .returned (.int .i64 k) ∧ w = w' ∧ decide (0 ≤ k) = hasS ss s := by
  obtain ⟨hl, hm, hc⟩ := hr
  have HL := Lib.hid hl
  have HC := Lib.hid hc
  clear hl hc
  go_enter Tryz.func64, Tryz.ntmps64
  go_wp2
  go_loop [8] (fun i => ∃ k : Nat, k ≤ n ∧ i = .int .i64 k ∧ hasS (ss.take k) s = false) (fun i => n - (intOf i).toNat)
  case atStart => exact ⟨0, Nat.zero_le _, rfl, rfl⟩
  case round =>
    obtain ⟨k, hk, rfl, hall⟩ := hrel
    have HA := Lib.hid hall
    clear hall
    by_cases hlt : k < n
    · obtain ⟨b, off, rfl, hcell⟩ := HC.out (by omega)
      have hc := hcell k hlt
      clear hcell
      have HT := Lib.hid (hasS_take ss s k (by rw [HL.out]; exact hlt))
      have HX := Lib.hid (hasS_at ss s k (by rw [HL.out]; exact hlt))
      generalize ss.getD k ⟨#[]⟩ = x at *
      cases hb : (s.toList == x.toList) with
      | true =>
        have HX2 := Lib.hid (HX.out hb)
        clear HX HT
        go_wp2
        go_ret
        exact ⟨_, rfl, rfl, by rw [HX2.out]; simp⟩
      | false =>
        have HT2 := Lib.hid (show hasS (ss.take (k + 1)) s = false by rw [HT.out, HA.out, hb]; rfl)
        clear HX HT
        go_wp2
        go_roundw
        case rel => exact ⟨k + 1, by omega, by go_num, HT2.out⟩
        case measure => simp [intOf]; omega
    · obtain rfl : k = n := by omega
      go_wp2
      go_ret
      exact ⟨_, rfl, rfl, by have := HA.out; rw [← HL.out, List.take_length] at this; rw [this]; rfl⟩
set_option maxRecDepth 100000 in
theorem contains_any (A : Option Addr) (n cap : Nat) (ss : List ByteArray) (s : ByteArray) (w : World) (hr : RdS w A n ss) : Calls Tryz.prog 36 #[.slice A n cap, .string s] w fun e w' => e = .returned (.bool (hasS ss s)) ∧ w = w' := by
  have HI := Lib.hid (index_any A n cap ss s w hr)
  clear hr
  go_enter Tryz.func36, Tryz.ntmps36
  go_wp2_with fail
  refine HI.out.mono ?_
  rintro e w' ⟨k, rfl, rfl, hk⟩
  have HK := Lib.hid hk
  clear hk
  go_wp2
  go_ret
  exact ⟨by rw [← HK.out]; rfl, rfl⟩
theorem hasS_names (m : List Ent) (x : Nm) : hasS (m.map fun e => ⟨e.nm.toArray⟩) ⟨x.toArray⟩ = (Dk.get Ent.nm x m).isSome := by
  have hl : ∀ y : Nm, (⟨y.toArray⟩ : ByteArray).toList = y := fun y => by rw [ByteArray.toList_eq]
  unfold hasS Dk.get
  induction m with
  | nil => rfl
  | cons e m ih =>
    rw [List.map_cons, List.any_cons, List.find?_cons, ih]
    simp only [hl]
    cases hb : (e.nm == x) with
    | true => rw [show (x == e.nm) = true by simp at hb ⊢; exact hb.symm]; rfl
    | false => rw [show (x == e.nm) = false by simp at hb ⊢; exact fun h => hb h.symm]; rfl
theorem has_new {w : World} {g b : Nat} {m : List Ent} {t : St} (h : Im w g b m t) (x : Nm) : (Dk.get Ent.nm x m).isSome = (fget x t.fs).isSome := by
  have := h.get ⟨x.toArray⟩
  simp only at this
  rw [this]
  unfold found
  simp
/-- what a call has left of a disk, and of the blocks that are none of its own -/
def LeftM (w : World) (g b : Nat) (m m' : List Ent) (w' : World) : Prop := Dk.Fr (g :: b :: blks m) w w' ∧ ∀ i ∈ blks m', i ∈ blks m ∨ w.heap.size ≤ i
theorem LeftM.refl (w : World) (g b : Nat) (m : List Ent) : LeftM w g b m m w := ⟨Dk.Fr.refl _ _, fun _ h => .inl h⟩
theorem LeftM.trans {w w1 w2 : World} {g b : Nat} {m m1 m2 : List Ent} (h : LeftM w g b m m1 w1) (k : LeftM w1 g b m1 m2 w2) : LeftM w g b m m2 w2 := by
  refine ⟨h.1.trans k.1 ?_, ?_⟩
  · intro i hi
    simp only [List.mem_cons] at hi ⊢
    rcases hi with rfl | rfl | hi
    · exact .inl (.inl rfl)
    · exact .inl (.inr (.inl rfl))
    · rcases h.2 i hi with h1 | h1
      · exact .inl (.inr (.inr h1))
      · exact .inr h1
  · intro i hi
    rcases k.2 i hi with h1 | h1
    · exact h.2 i h1
    · exact .inr (Nat.le_trans h.1.size h1)
theorem LeftM.below {w w1 : World} {g b : Nat} {m : List Ent} (hb : Below w.heap.size w w1) : LeftM w g b m m w1 := ⟨Dk.Fr.below hb, fun _ h => .inl h⟩
theorem Apart.left {w w' : World} {g b : Nat} {m m' : List Ent} {A : Option Addr} {n : Nat} {zs : List Int} (hA : Apart w g b m A n zs) (h : LeftM w g b m m' w') : Apart w' g b m' A n zs := by
  obtain ⟨h2, h3⟩ := h
  refine ⟨rd_off hA.1 h2 hA.2, fun hn a ha hm => ?_⟩
  have hno := hA.2 hn a ha
  simp only [List.mem_cons, not_or] at hno hm
  rcases hm with hm | hm | hm
  · exact hno.1 hm
  · exact hno.2.1 hm
  · rcases h3 _ hm with h4 | h4
    · exact hno.2.2 h4
    · obtain ⟨bb, off, e, hc⟩ := hA.1.2.2.2 hn
      rw [ha] at e
      injection e with e
      have := lt_of_cell (hc 0 hn)
      rw [e] at h4
      simp only at h4 this
      omega
theorem new_add (x : Nm) (hx : x.length ≤ 60) (W : World) : (Op.stringOp .add ⟨x.toArray⟩ ⟨#[46, 110, 101, 119]⟩).run Tryz.prog W = .ok (.string ⟨(x ++ newE).toArray⟩) W := run_string_add_lists W x newE (by omega) (by decide)
end Go.Proofs.YtgmpdifggaggdaaGreatDoor.Kp
