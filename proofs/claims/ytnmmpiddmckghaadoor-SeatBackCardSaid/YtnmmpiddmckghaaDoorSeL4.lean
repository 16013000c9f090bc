/-
  Layer 13, that the law SeatBack answers true. Conditions: the groups can be read.
-/
import Derived.Test.YtnmmpiddmckghaaDoorSeL7
import Derived.Test.YtnmmpiddmckghaaDoorSeFi
import Derived.Test.YtnmmpiddmckghaaDoorSeE
import Derived.Test.YtnmmpiddmckghaaDoorQuR
namespace Go.Proofs.YtnmmpiddmckghaaDoor.Se
open Go.RowKit Go.Proofs.YtnmmpiddmckghaaDoor.Qu Go.Proofs.YtnmmpiddmckghaaDoor.Fld
set_option linter.unusedVariables false

theorem bes_has {r : Int} {gs : List Int} {x : Int} {k : Nat} (hk : k < (besL r gs x).length) : hasI (besL r gs ((besL r gs x).getD k 0)) x = true ∧ ((besL r gs x).getD k 0 == x) = false := by
  have hm : (besL r gs x).getD k 0 ∈ besL r gs x := by rw [List.getD_eq_getElem?_getD, List.getElem?_eq_getElem hk]; exact List.getElem_mem _
  obtain ⟨h1, h2⟩ := besL_back hm
  exact ⟨(has_iff _ _).2 h1, by simpa using h2⟩
theorem nm_size {gs : List Int} {x : Int} : (nm gs x).size ≤ 9223372036854775807 := by
  have := labS_size (x / gs.sum).toNat (x % gs.sum).toNat
  unfold nm
  omega
set_option maxRecDepth 100000 in
set_option maxHeartbeats 3200000 in
theorem back_walk (r : Int) (A : Option Addr) (n c : Nat) (gs : List Int) (x : Int) (w : World) (hr : RdI w A n gs) :
    Calls Tryd.prog 6 #[layV r A n c, .int .i64 x] w fun e w' => e = .returned (.bool true) ∧ Below w.heap.size w w' := by
  have hb := alloc_below w (layO r A n c)
  have hr' := RdI.below hr hb
  have HK := layO_blk w r A n c
  unfold layO at *
  obtain ⟨W, hW⟩ : ∃ W, w.alloc (.cells #[.int .i64 r, .slice A n c] 24) = W := ⟨_, rfl⟩
  rw [hW] at hb hr' HK
  have HW := Lib.hid hW
  have HB := Lib.hid hb
  have HRD := Lib.hid (fun (w2 : World) (h2 : Below W.heap.size W w2) => hr'.below h2)
  have HX := Lib.hid (fun (w2 : World) (h2 : Below W.heap.size W w2) => (⟨(HK.below h2).cell 0 _ rfl, (HK.below h2).cell 1 _ rfl⟩ : w2.cell? ⟨w.heap.size, 0, none⟩ = some (.int .i64 r) ∧ w2.cell? ⟨w.heap.size, 1, none⟩ = some (.slice A n c)))
  have HBW := Lib.hid (Below.refl W.heap.size W)
  have HAW := Lib.hid (awake_any W)
  have H1 := Lib.hid (fun (w2 : World) (h2 : RdI w2 A n gs) => label_any r A n c gs x w2 h2)
  have HBE := Lib.hid (fun (x : Int) (w2 : World) (h2 : RdI w2 A n gs) => beside_any r A n c gs x w2 h2)
  have H3 := Lib.hid (fun (w2 : World) (h2 : RdI w2 A n gs) => find_any r A n c gs (nm gs x) nm_size w2 h2)
  have hm := hr.2.1
  unfold maxLen at hm
  unfold layV at *
  have HY1 := Lib.hid (fun h => lbl_yes (r := r) (gs := gs) (x := x) h)
  have HN1 := Lib.hid (fun h => lbl_no (r := r) (gs := gs) (x := x) h)
  have HNB := Lib.hid (show inS r gs x = false → besL r gs x = [] by
    intro h
    refine besL_no fun h2 => ?_
    unfold inS at h
    rw [decide_eq_true h2.1, decide_eq_true h2.2] at h
    cases h)
  have HLEN := Lib.hid (fun x => besL_len r gs x)
  have HBK := Lib.hid (fun k hk => bes_has (r := r) (gs := gs) (x := x) (k := k) hk)
  have HFY := Lib.hid (fun h0 h1 => fnd_yes (r := r) (gs := gs) (n := x) h0 h1)
  clear hr hr' HK hb hW
  obtain ⟨c0, c1⟩ := HX.out _ (Below.refl _ _)
  generalize lblS r gs x = L at *
  generalize lblE r gs x = E at *
  go_enter Tryd.func6, Tryd.ntmps6
  go_wp2_with (first | rw [HW.out] | fail)
  refine HAW.out.mono ?_
  rintro e w1 ⟨rfl, hb2⟩
  have HBW := Lib.hid (HBW.out.trans (hb2.mono HBW.out.size))
  clear hb2 c0 c1
  obtain ⟨c0, c1⟩ := HX.out _ HBW.out
  by_cases hn : 1000 < n
  · go_wp2
    go_ret
    exact ⟨rfl, HB.out.trans (HBW.out.mono HB.out.size)⟩
  go_wp2_with fail
  refine (H1.out _ (HRD.out _ HBW.out)).mono ?_
  rintro e w2 ⟨rfl, hb2⟩
  have HBW := Lib.hid (HBW.out.trans (hb2.mono HBW.out.size))
  clear hb2 c0 c1
  obtain ⟨c0, c1⟩ := HX.out _ HBW.out
  cases h1 : inS r gs x with
  | false =>
    obtain rfl := HN1.out h1
    have HNL := HNB.out h1
    go_wp2_with fail
    refine (HBE.out x _ (HRD.out _ HBW.out)).mono ?_
    rintro e w3 ⟨v3, rfl, ho3⟩
    have HBW := Lib.hid (HBW.out.trans (ho3.1.mono HBW.out.size))
    rw [HNL] at ho3
    obtain ⟨A3, d3, rfl, -⟩ := ho3.form (by simp)
    clear ho3 HNL
    go_wp2
    go_ret
    exact ⟨by first | rfl | exact ret_bool (by simp), HB.out.trans (HBW.out.mono HB.out.size)⟩
  | true =>
    obtain ⟨rfl, rfl, hx0, hx1⟩ := HY1.out h1
    obtain ⟨f1, f2⟩ := HFY.out hx0 hx1
    rw [ByteArray.toList_eq] at f1 f2
    rw [f1, f2] at H3
    clear HY1 HN1 HNB HFY f1 f2 h1
    generalize nm gs x = L at *
    go_wp2_with fail
    refine (H3.out _ (HRD.out _ HBW.out)).mono ?_
    rintro e w3 ⟨rfl, hb2⟩
    have HBW := Lib.hid (HBW.out.trans (hb2.mono HBW.out.size))
    clear hb2 c0 c1
    obtain ⟨c0, c1⟩ := HX.out _ HBW.out
    go_wp2_with fail
    refine (HBE.out x _ (HRD.out _ HBW.out)).mono ?_
    rintro e w4 ⟨v4, rfl, ho4⟩
    have HBW := Lib.hid (HBW.out.trans (ho4.1.mono HBW.out.size))
    obtain ⟨A4, d4, rfl, hr4, -⟩ := ho4.form (by have := HLEN.out x; omega)
    have hl2 := HLEN.out x
    have HR4 := Lib.hid hr4
    clear ho4 hr4 c0 c1
    generalize besL r gs x = B at *
    go_wp2
    go_loopw [11] (fun i wr => ∃ k : Nat, k ≤ B.length ∧ i = .int .i64 k ∧ Below w4.heap.size w4 wr) (fun i _ => B.length - (intOf i).toNat)
    case atStart => exact ⟨0, by omega, rfl, Below.refl _ _⟩
    case round =>
      obtain ⟨k, hk, rfl, hb5⟩ := hrel
      have HBW := Lib.hid (HBW.out.trans (hb5.mono HBW.out.size))
      have HB5 := Lib.hid hb5
      have hr5 := HR4.out.below hb5
      obtain ⟨c0, c1⟩ := HX.out _ HBW.out
      by_cases hlt : k < B.length
      · obtain ⟨q1, q2⟩ := HBK.out k hlt
        obtain ⟨b, off, rfl, hcell⟩ := hr5.2.2 (by omega)
        have hcK := hcell k hlt
        have HCK := Lib.hid (fun (w2 : World) (h2 : Below wr.heap.size wr w2) => (h2.cell (p := ⟨b, off + k, none⟩) (lt_of_cell hcK)).trans hcK)
        have HQ1 := Lib.hid q1
        have HBR := Lib.hid (Below.refl wr.heap.size wr)
        have HBY := Lib.hid (HBE.out (B.getD k 0))
        have HLY := Lib.hid (HLEN.out (B.getD k 0))
        clear hcell q1 hr5 hb5
        generalize B.getD k 0 = y at *
        go_wp2_with fail
        go_region_held3 (fun w' => w'.cell? ⟨w.heap.size, 0, none⟩ = some (.int .i64 r) ∧ w'.cell? ⟨w.heap.size, 1, none⟩ = some (.slice A n c) ∧ w'.cell? ⟨b, off + k, none⟩ = some (.int .i64 y)) (first | exact ⟨by assumption, by assumption, by assumption⟩ | go_keep) (first
          | (go_at_call 11; refine (HBY.out _ (HRD.out _ (by first | exact HBW.out | exact HBW.out.drew))).mono ?_; rintro e w2 ⟨v2, rfl, ho2⟩; have HBW := Lib.hid ((show Below W.heap.size W _ from by first | exact HBW.out | exact HBW.out.drew).trans (ho2.1.mono (by exact HBW.out.size))); obtain ⟨A2, d2, rfl, hr2, -⟩ := ho2.form (by have := HLY.out; omega); have HR6 := Lib.hid hr2; have HBR := Lib.hid ((show Below wr.heap.size wr _ from by first | exact HBR.out | exact HBR.out.drew).trans (ho2.1.mono (by exact HBR.out.size))); clear ho2 hr2 c0 c1 hcK; obtain ⟨c0, c1⟩ := HX.out _ HBW.out; have hcK := HCK.out _ HBR.out)
          | (go_at_call 24; refine (Qu.has_any _ _ _ _ x _ (by first | exact HR6.out | exact HR6.out.same (fun _ => rfl))).mono ?_; rintro e w6 ⟨rfl, rfl⟩))
        all_goals
          rw [HQ1.out]
          go_wp2
          go_roundw
          case rel => exact ⟨k + 1, by omega, by go_num, by first | exact HB5.out.trans (HBR.out.mono HB5.out.size) | exact (HB5.out.trans (HBR.out.mono HB5.out.size)).drew⟩
          case measure => simp [intOf]; omega
      · obtain rfl : k = B.length := by omega
        clear hr5 hb5
        have hl3 : ((B.length : Nat) : Int) ≤ 2 := by omega
        go_wp2
        go_ret
        exact ⟨by first | rfl | exact ret_bool (by simp; omega), HB.out.trans (HBW.out.mono HB.out.size)⟩
end Go.Proofs.YtnmmpiddmckghaaDoor.Se
