/-
  Layer 13, that the law SeatApart answers true. Conditions: the groups can be read.
-/
import Derived.Test.YtnmmpiddmckghaaDoorSeAw
namespace Go.Proofs.YtnmmpiddmckghaaDoor.Se
open Go.RowKit Go.Proofs.YtnmmpiddmckghaaDoor.Qu Go.Proofs.YtnmmpiddmckghaaDoor.Fld
set_option linter.unusedVariables false

theorem lbl_yes {r : Int} {gs : List Int} {x : Int} (h : inS r gs x = true) : lblS r gs x = nm gs x ∧ lblE r gs x = 0 ∧ 0 ≤ x ∧ x < cntS r gs := by
  unfold lblS lblE
  rw [h]
  unfold inS at h
  simp at h
  exact ⟨rfl, rfl, h.1, h.2⟩
theorem lbl_no {r : Int} {gs : List Int} {x : Int} (h : inS r gs x = false) : lblE r gs x = 1 := by
  unfold lblE
  rw [h]
  rfl
theorem apart_eq {r : Int} {gs : List Int} {x y : Int} (h1 : inS r gs x = true) (h2 : inS r gs y = true) : ((lblS r gs x).toList == (lblS r gs y).toList) = (x == y) := by
  obtain ⟨a1, _, a3, a4⟩ := lbl_yes h1
  obtain ⟨b1, _, b3, b4⟩ := lbl_yes h2
  rw [a1, b1, Bool.eq_iff_iff, beq_iff_eq, beq_iff_eq]
  constructor
  · intro h
    refine nm_inj a3 a4 b3 b4 ?_
    rw [ByteArray.toList_eq, ByteArray.toList_eq] at h
    generalize nm gs x = p at *
    generalize nm gs y = q at *
    obtain ⟨⟨p⟩⟩ := p
    obtain ⟨⟨q⟩⟩ := q
    simp at h
    rw [h]
  · rintro rfl; rfl
set_option maxRecDepth 100000 in
set_option maxHeartbeats 3200000 in
theorem apart_walk (r : Int) (A : Option Addr) (n c : Nat) (gs : List Int) (x y : Int) (w : World) (hr : RdI w A n gs) :
    Calls Tryd.prog 9 #[layV r A n c, .int .i64 x, .int .i64 y] w fun e w' => e = .returned (.bool true) ∧ Below w.heap.size w w' := by
  have hb := alloc_below w (layO r A n c)
  have hr' := RdI.below hr hb
  have HK := layO_blk w r A n c
  unfold layO at *
  obtain ⟨W, hW⟩ : ∃ W, w.alloc (.cells #[.int .i64 r, .slice A n c] 24) = W := ⟨_, rfl⟩
  rw [hW] at hb hr' HK
  have HW := Lib.hid hW
  have HB := Lib.hid hb
  have HRD := Lib.hid (fun (w2 : World) (h2 : Below W.heap.size W w2) => hr'.below h2)
  have HX := Lib.hid (fun (w2 : World) (h2 : Below W.heap.size W w2) => (⟨(HK.below h2).cell 0 _ rfl, (HK.below h2).cell 1 _ rfl⟩ : w2.cell? ⟨w.heap.size, 0, none⟩ = some (.int .i64 r) ∧ w2.cell? ⟨w.heap.size, 1, none⟩ = some (.slice A n c)))
  have HBW := Lib.hid (Below.refl W.heap.size W)
  have HAW := Lib.hid (awake_any W)
  have H1 := Lib.hid (fun (w2 : World) (h2 : RdI w2 A n gs) => label_any r A n c gs x w2 h2)
  have H2 := Lib.hid (fun (w2 : World) (h2 : RdI w2 A n gs) => label_any r A n c gs y w2 h2)
  have hm := hr.2.1
  unfold maxLen at hm
  unfold layV at *
  have HEQ := Lib.hid (fun h1 h2 => apart_eq (r := r) (gs := gs) (x := x) (y := y) h1 h2)
  have HY1 := Lib.hid (fun h => (lbl_yes (r := r) (gs := gs) (x := x) h).2.1)
  have HY2 := Lib.hid (fun h => (lbl_yes (r := r) (gs := gs) (x := y) h).2.1)
  have HN1 := Lib.hid (fun h => lbl_no (r := r) (gs := gs) (x := x) h)
  have HN2 := Lib.hid (fun h => lbl_no (r := r) (gs := gs) (x := y) h)
  clear hr hr' HK hb hW
  obtain ⟨c0, c1⟩ := HX.out _ (Below.refl _ _)
  generalize lblS r gs x = L at *
  generalize lblE r gs x = E at *
  generalize lblS r gs y = L2 at *
  generalize lblE r gs y = E2 at *
  go_enter Tryd.func9, Tryd.ntmps9
  go_wp2_with (first | rw [HW.out] | fail)
  refine HAW.out.mono ?_
  rintro e w1 ⟨rfl, hb2⟩
  have HBW := Lib.hid (HBW.out.trans (hb2.mono HBW.out.size))
  clear hb2 c0 c1
  obtain ⟨c0, c1⟩ := HX.out _ HBW.out
  by_cases hn : 1000 < n
  · go_wp2
    go_ret
    exact ⟨rfl, HB.out.trans (HBW.out.mono HB.out.size)⟩
  go_wp2_with fail
  refine (H1.out _ (HRD.out _ HBW.out)).mono ?_
  rintro e w2 ⟨rfl, hb2⟩
  have HBW := Lib.hid (HBW.out.trans (hb2.mono HBW.out.size))
  clear hb2 c0 c1
  obtain ⟨c0, c1⟩ := HX.out _ HBW.out
  go_wp2_with fail
  refine (H2.out _ (HRD.out _ HBW.out)).mono ?_
  rintro e w3 ⟨rfl, hb2⟩
  have HBW := Lib.hid (HBW.out.trans (hb2.mono HBW.out.size))
  clear hb2 c0 c1
  obtain ⟨c0, c1⟩ := HX.out _ HBW.out
  have HB9 := Lib.hid (HB.out.trans (HBW.out.mono HB.out.size))
  cases h1 : inS r gs x with
  | false =>
    obtain rfl := HN1.out h1
    go_wp2
    go_ret
    exact ⟨rfl, HB9.out⟩
  | true =>
    obtain rfl := HY1.out h1
    cases h2 : inS r gs y with
    | false =>
      obtain rfl := HN2.out h2
      go_wp2
      go_ret
      exact ⟨rfl, HB9.out⟩
    | true =>
      obtain rfl := HY2.out h2
      have heq := HEQ.out h1 h2
      cases hxy : (x == y) with
      | true =>
        rw [hxy] at heq
        go_wp2
        go_ret
        exact ⟨by first | rfl | exact ret_bool (by simp), HB9.out⟩
      | false =>
        rw [hxy] at heq
        go_wp2
        go_ret
        exact ⟨by first | rfl | exact ret_bool (by simp), HB9.out⟩
end Go.Proofs.YtnmmpiddmckghaaDoor.Se
