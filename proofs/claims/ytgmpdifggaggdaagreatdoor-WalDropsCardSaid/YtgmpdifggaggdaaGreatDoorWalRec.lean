/-
  Layer 6: the records that the program makes: numbers, put, headRecord, entryRecord, cutRecord, resetRecord. Conditions: the numbers fit; an entry's bytes are at most 4096.
-/
import Derived.Test.YtgmpdifggaggdaaGreatDoorJWalName
import Derived.Test.YtgmpdifggaggdaaGreatDoorJFieldMake
import Derived.Test.YtgmpdifggaggdaaGreatDoorJRecBase
import Derived.Test.YtgmpdifggaggdaaGreatDoorJDiskRead
namespace Go.Proofs.YtgmpdifggaggdaaGreatDoor.Wl
open Go.RowKit Go.Proofs.YtgmpdifggaggdaaGreatDoor.Fld
set_option linter.unusedVariables false

theorem enc_len (l : List Nat) (h : ∀ n ∈ l, n < 18446744073709551616) : (enc l).length ≤ 9 * l.length := by
  induction l with
  | nil => simp [enc]
  | cons n l ih =>
    have h1 := digs_len8 n (h n (by simp))
    have h2 := ih (fun m hm => h m (by simp [hm]))
    unfold enc at *
    rw [List.flatMap_cons, List.length_append, code_len, List.length_cons]
    omega
theorem enc_take (l : List Nat) (k : Nat) (h : k < l.length) : enc (l.take (k + 1)) = enc (l.take k) ++ code (l.getD k 0) := by
  rw [List.take_add_one, List.getElem?_eq_getElem h, enc, List.flatMap_append, List.getD_eq_getElem?_getD, List.getElem?_eq_getElem h]
  simp [enc]
theorem alloc_below' (w : World) (o : Obj) : Below w.heap.size w (w.alloc o) := (Below.refl _ _).alloc (Nat.le_refl _) o
def ints (l : List Nat) : List Int := l.map fun (n : Nat) => (n : Int)
theorem ints_at (l : List Nat) (k : Nat) (h : k < l.length) : (ints l).getD k 0 = ((l.getD k 0 : Nat) : Int) := by simp [ints, h]
set_option maxRecDepth 100000 in
set_option maxHeartbeats 3200000 in
theorem numbers_any (A : Option Addr) (n cap : Nat) (l : List Nat) (w : World) (hr : Dk.RdI w A n (ints l)) (hl : l.length = n) (hn : n ≤ 10) (hs : ∀ m ∈ l, m ≤ 9223372036854775807) :
    Calls Tryz.prog 79 #[.slice A n cap] w (Made w (enc l)) := by
  have HR := Lib.hid hr
  have HL := Lib.hid hl
  have HS := Lib.hid hs
  clear hr hl hs
  go_enter Tryz.func79, Tryz.ntmps79
  go_wp2
  go_loopw [3, 8] (fun v i wr => ∃ k : Nat, k ≤ n ∧ i = .int .i64 k ∧ Own w wr v (enc (l.take k))) (fun _ i _ => n - (intOf i).toNat)
  case atStart => exact ⟨0, Nat.zero_le _, rfl, Own.nil w w (Below.refl _ _)⟩
  case round =>
    obtain ⟨k, hk, rfl, hO⟩ := hrel
    have HO := Lib.hid hO
    clear hO
    by_cases hlt : k < n
    · obtain ⟨b, off, rfl, hc1⟩ := HR.out.2.2 (by omega)
      have hc := hc1 k hlt
      rw [ints_at l k (by rw [HL.out]; exact hlt)] at hc
      have hc := (HO.out.1.cell (lt_of_cell hc)).trans hc
      clear hc1
      have hm : l.getD k 0 ≤ 9223372036854775807 := HS.out _ (by rw [List.getD_eq_getElem?_getD, List.getElem?_eq_getElem (by rw [HL.out]; exact hlt)]; simp)
      have HE := Lib.hid (enc_take l k (by rw [HL.out]; exact hlt))
      have HL1 := Lib.hid (show (enc (l.take k)).length ≤ 90 from by
        have := enc_len (l.take k) (fun m hm => by have := HS.out m (List.mem_of_mem_take hm); omega)
        rw [List.length_take] at this
        omega)
      generalize l.getD k 0 = m at *
      have HN := Lib.hid (number_any m (by omega) wr)
      have HM := Lib.hid (digs_len8 m (by omega))
      go_wp2_with fail
      refine HN.out.mono ?_
      rintro e w1 ⟨v1, rfl, hO1⟩
      obtain ⟨A1, c1, rfl, hs1, _⟩ := hO1.sl _ rfl
      have HO1 := Lib.hid (HO.out.below hO1.1)
      have HS1 := Lib.hid hs1
      clear hs1 hO1
      go_wp2_with (at_builtin; refine wpList_append_rd rfl _ _ rfl w _ (enc (l.take k)) rfl HO1.out A1 _ c1 (code m) rfl HS1.out.2.2.2.1 HS1.out.1 (by have := HM.out; have := HL1.out; rw [code_len]; omega) ?_; intro v2 w2 hO2 _ _; have HO2 := Lib.hid hO2; clear hO2)
      go_roundw
      case rel => exact ⟨k + 1, by omega, by go_num, by rw [HE.out]; exact HO2.out⟩
      case measure => simp [intOf]; omega
    · obtain rfl : k = n := by omega
      go_wp2
      go_ret
      exact ⟨_, rfl, by have := HO.out; rwa [← HL.out, List.take_length] at this⟩
set_option maxRecDepth 100000 in
theorem put_any (A : Option Addr) (n cap : Nat) (t : List Int) (w : World) (hr : Rd w A n t) (hA : A = none → cap = 0) (hn : n ≤ 65536) : Calls Tryz.prog 78 #[.slice A n cap] w (Made w (Rc.recd t)) := by
  have HP := Lib.hid (Rc.put_ok A n cap t w hr hA hn)
  clear hr hA
  go_enter Tryz.func78, Tryz.ntmps78
  go_wp2_with (go_at_call 102; refine HP.out.mono ?_; rintro e w' ⟨v, rfl, hO⟩; have HO := Lib.hid hO; clear hO)
  go_ret
  exact ⟨_, rfl, HO.out⟩
theorem rdI_built (w : World) (l : List Nat) (hl : l.length ≤ 100) (t : TypeId) : Dk.RdI (w.alloc (.cells (l.map fun (n : Nat) => Value.int .i64 (n : Int)).toArray t)) (some ⟨w.heap.size, 0, none⟩) l.length (ints l) := by
  refine ⟨by simp [ints], by unfold maxLen; omega, fun _ => ⟨_, _, rfl, fun i hi => ?_⟩⟩
  rw [World.cell?_alloc_mark, Nat.zero_add, ints_at l i hi]
  simp [hi]
theorem made_from {w w1 : World} {zs : List Int} {e : Ending} {w' : World} (h : Made w1 zs e w') (hb : Below w.heap.size w w1) : Made w zs e w' := by
  obtain ⟨v, he, hO⟩ := h
  exact ⟨v, he, hO.since hb⟩
set_option maxRecDepth 100000 in
set_option maxHeartbeats 800000 in
theorem headRecord_any (n i : Nat) (w : World) (hn : n ≤ 9223372036854775807) (hi : i ≤ 9223372036854775807) : Calls Tryz.prog 75 #[.int .i64 (n : Int), .int .i64 (i : Int)] w (Made w (Rc.recd (chC (.head n i)))) := by
  have HR := Lib.hid (rdI_built w [0, n, i] (by simp) 3)
  have HL := Lib.hid (enc_len [0, n, i] (by simp; omega))
  have HN := Lib.hid (numbers_any _ 3 3 [0, n, i] _ HR.out rfl (by omega) (by simp; omega))
  have HB := Lib.hid (alloc_below' w (.cells #[.int .i64 0, .int .i64 (n : Int), .int .i64 (i : Int)] 3))
  go_enter Tryz.func75, Tryz.ntmps75
  go_wp2_with fail
  refine HN.out.mono ?_
  rintro e w1 ⟨v1, rfl, hO1⟩
  obtain ⟨A1, c1, rfl, hs1, _⟩ := hO1.sl _ rfl
  have HP := Lib.hid (put_any A1 _ c1 _ w1 hs1.1 hs1.2.2.2.1 (by have := HL.out; simp at this; omega))
  have HB1 := Lib.hid hO1.1
  clear hs1 hO1
  go_wp2_with (go_at_call 78; refine HP.out.mono ?_; rintro e w' ⟨v, rfl, hO⟩; have HO := Lib.hid hO; clear hO)
  go_ret
  exact ⟨_, rfl, HO.out.since (HB.out.trans (HB1.out.mono HB.out.size))⟩
end Go.Proofs.YtgmpdifggaggdaaGreatDoor.Wl
