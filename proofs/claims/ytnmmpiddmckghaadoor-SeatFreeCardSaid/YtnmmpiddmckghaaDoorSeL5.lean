/-
  Layer 13, that the law SeatFree answers true. Conditions: the groups and the taken seats can be read.
-/
import Derived.Test.YtnmmpiddmckghaaDoorSeAw
import Derived.Test.YtnmmpiddmckghaaDoorSeBp
import Derived.Test.YtnmmpiddmckghaaDoorQuR
namespace Go.Proofs.YtnmmpiddmckghaaDoor.Se
open Go.RowKit Go.Proofs.YtnmmpiddmckghaaDoor.Qu Go.Proofs.YtnmmpiddmckghaaDoor.Fld
set_option linter.unusedVariables false

/-- what SeatFree asks of the seats that Best tells -/
theorem bst_each {r : Int} {gs tk : List Int} {m : Int} (h : bstE r gs tk m = 0) : ((bstL r gs tk m).length : Int) = m ∧ ∀ k, k < (bstL r gs tk m).length →
    hasI tk ((bstL r gs tk m).getD k 0) = false ∧ 0 ≤ (bstL r gs tk m).getD k 0 ∧ (bstL r gs tk m).getD k 0 < cntS r gs ∧ (∀ j, k = j + 1 → (bstL r gs tk m).getD j 0 < (bstL r gs tk m).getD k 0) := by
  obtain ⟨h1, h2, h3⟩ := bst_ok h
  have hL : bstL r gs tk m = bestL gs (frN tk (cntS r gs).toNat) m.toNat := by unfold bstL; rw [if_pos h]
  rw [hL]
  have hlen := best_len (gs := gs) (fr := frN tk (cntS r gs).toNat) (m := m.toNat) (by omega)
  have hup := best_up (gs := gs) (m := m.toNat) (fr_up tk (cntS r gs).toNat)
  refine ⟨by rw [hlen]; omega, fun k hk => ?_⟩
  have hx : (bestL gs (frN tk (cntS r gs).toNat) m.toNat).getD k 0 ∈ frN tk (cntS r gs).toNat := by
    apply best_mem (gs := gs) (m := m.toNat)
    rw [List.getD_eq_getElem?_getD, List.getElem?_eq_getElem hk]
    exact List.getElem_mem _
  have h4 := (fr_mem tk _ _).1 hx
  have h5 := cnt_bd r gs
  refine ⟨h4.2.2, h4.1, by omega, fun j hj => ?_⟩
  subst hj
  have := up_le hup (i := j) (j := j + 1) (by omega) hk
  omega
theorem bst_nil {r : Int} {gs tk : List Int} {m : Int} (h : bstE r gs tk m ≠ 0) : bstL r gs tk m = [] := by unfold bstL; rw [if_neg h]
set_option maxRecDepth 100000 in
set_option maxHeartbeats 6400000 in
theorem sfree_walk (r : Int) (A : Option Addr) (n c : Nat) (gs : List Int) (T : Option Addr) (tn tc : Nat) (tk : List Int) (m : Int) (w : World) (hr : RdI w A n gs) (ht : RdI w T tn tk) :
    Calls Tryd.prog 7 #[layV r A n c, .slice T tn tc, .int .i64 m] w fun e w' => e = .returned (.bool true) ∧ Below w.heap.size w w' := by
  have hb := alloc_below w (layO r A n c)
  have hr' := RdI.below hr hb
  have HK := layO_blk w r A n c
  unfold layO at *
  obtain ⟨W, hW⟩ : ∃ W, w.alloc (.cells #[.int .i64 r, .slice A n c] 24) = W := ⟨_, rfl⟩
  rw [hW] at hb hr' HK
  have HW := Lib.hid hW
  have HB := Lib.hid hb
  have HRD := Lib.hid (fun (w2 : World) (h2 : Below W.heap.size W w2) => hr'.below h2)
  have HX := Lib.hid (fun (w2 : World) (h2 : Below W.heap.size W w2) => (⟨(HK.below h2).cell 0 _ rfl, (HK.below h2).cell 1 _ rfl⟩ : w2.cell? ⟨w.heap.size, 0, none⟩ = some (.int .i64 r) ∧ w2.cell? ⟨w.heap.size, 1, none⟩ = some (.slice A n c)))
  have HBW := Lib.hid (Below.refl W.heap.size W)
  have HAW := Lib.hid (awake_any W)
  have ht' := ht.below hb
  have HTD := Lib.hid (fun (w2 : World) (h2 : Below W.heap.size W w2) => ht'.below h2)
  have H1 := Lib.hid (fun (w2 : World) (h2 : RdI w2 A n gs) (h3 : RdI w2 T tn tk) => best_any r A n c gs T tn tc tk m w2 h2 h3)
  have HC1 := Lib.hid (fun (w2 : World) (h2 : RdI w2 A n gs) => count_any r A n c gs w2 h2)
  have HHA := Lib.hid (fun (x : Int) (w2 : World) (h2 : RdI w2 T tn tk) => Qu.has_any T tn tc tk x w2 h2)
  have HEA := Lib.hid (fun h => bst_each (r := r) (gs := gs) (tk := tk) (m := m) h)
  have HNI := Lib.hid (fun h => bst_nil (r := r) (gs := gs) (tk := tk) (m := m) h)
  have HCA := Lib.hid (bst_cases r gs tk m)
  have hcb := cnt_bd r gs
  have hm := hr.2.1
  have hm2 := ht.2.1
  unfold maxLen at hm hm2
  unfold layV at *
  clear hr hr' HK hb hW ht ht'
  obtain ⟨c0, c1⟩ := HX.out _ (Below.refl _ _)
  generalize bstL r gs tk m = L at *
  generalize bstE r gs tk m = E at *
  generalize cntS r gs = K at *
  go_enter Tryd.func7, Tryd.ntmps7
  go_wp2_with (first | rw [HW.out] | fail)
  refine HAW.out.mono ?_
  rintro e w1 ⟨rfl, hb2⟩
  have HBW := Lib.hid (HBW.out.trans (hb2.mono HBW.out.size))
  clear hb2 c0 c1
  obtain ⟨c0, c1⟩ := HX.out _ HBW.out
  have HB1 := Lib.hid (HB.out.trans (HBW.out.mono HB.out.size))
  by_cases hn : 1000 < n
  · go_wp2
    go_ret
    exact ⟨rfl, HB1.out⟩
  by_cases hn2 : 2000 < tn
  · go_wp2
    go_ret
    exact ⟨rfl, HB1.out⟩
  go_wp2_with fail
  refine (H1.out _ (HRD.out _ HBW.out) (HTD.out _ HBW.out)).mono ?_
  rintro e w2 ⟨B2, d2, rfl, hr2, hb2⟩
  have HO2 := Lib.hid hr2
  clear hr2
  have HBW := Lib.hid (HBW.out.trans (hb2.mono HBW.out.size))
  clear hb2 c0 c1
  obtain ⟨c0, c1⟩ := HX.out _ HBW.out
  have HB2 := Lib.hid (HB.out.trans (HBW.out.mono HB.out.size))
  rcases HCA.out with h0 | h0
  · obtain ⟨hlm, heach⟩ := HEA.out h0
    have HEACH := Lib.hid heach
    have HLM := Lib.hid hlm
    have hlb := HO2.out.2.1
    unfold maxLen at hlb
    subst h0
    clear HNI HEA HCA heach hlm c0 c1
    go_wp2
    go_loopw [10] (fun i wr => ∃ k : Nat, k ≤ L.length ∧ i = .int .i64 k ∧ Below w2.heap.size w2 wr) (fun i _ => L.length - (intOf i).toNat)
    case atStart => exact ⟨0, by omega, rfl, Below.refl _ _⟩
    case round =>
      obtain ⟨k, hk, rfl, hbw⟩ := hrel
      have HBO := Lib.hid hbw
      have HBW := Lib.hid (HBW.out.trans (hbw.mono HBW.out.size))
      obtain ⟨c0, c1⟩ := HX.out _ HBW.out
      by_cases hlt : k < L.length
      · obtain ⟨p1, p2, p3, p4⟩ := HEACH.out k hlt
        obtain ⟨b, off, rfl, hcell⟩ := (HO2.out.below hbw).2.2 (by omega)
        have hc1 := hcell k hlt
        have k0 : (0 : Int) ≤ (k : Int) := by omega
        have k1 : (k : Int) < (L.length : Int) := by omega
        have HP1 := Lib.hid p1
        have HHY := Lib.hid (HHA.out (L.getD k 0))
        clear p1
        generalize hy : L.getD k 0 = y at *
        have HCK := Lib.hid (fun (w4 : World) (h4 : Below wr.heap.size wr w4) => (h4.cell (p := ⟨b, off + k, none⟩) (lt_of_cell hc1)).trans hc1)
        have HBR := Lib.hid (Below.refl wr.heap.size wr)
        have y0 : decide (y < 0) = false := by simp; omega
        have y1 : decide (K ≤ y) = false := by simp; omega
        by_cases hk0 : k = 0
        · have HK0 := Lib.hid hk0
          have k2 : decide (0 < k) = false := by simp; omega
          have k3 : decide ((0 : Int) < (k : Int)) = false := by simp; omega
          clear hcell p4 hbw hk0 hy
          go_wp2_with fail
          refine (HHY.out _ (HTD.out _ HBW.out)).mono ?_
          rintro e w4 ⟨rfl, rfl⟩
          rw [HP1.out]
          go_wp2_with fail
          refine wp_region_held_drew (S := fun w' => w'.cell? ⟨w.heap.size, 0, none⟩ = some (.int .i64 r) ∧ w'.cell? ⟨w.heap.size, 1, none⟩ = some (.slice A n c) ∧ w'.cell? ⟨b, off + k, none⟩ = some (.int .i64 y)) (by kernel_rfl) ?_ (fun hHeld => ?_)
          · exact ⟨c0, c1, hc1⟩
          refine wpAnyH_take (i := 0) (v := .bool false) rfl (by kernel_rfl) (by kernel_rfl) (by kernel_rfl) (fun _ _ _ h => h) (Or.inl ⟨by kernel_rfl, fun w hSw => by (try dsimp only at hSw); go_simp⟩) (by assumption) ?_
          refine wpAnyH_take (i := 1) (v := .bool false) rfl (by kernel_rfl) (by kernel_rfl) (by kernel_rfl) (fun _ _ _ h => h) (Or.inl ⟨by kernel_rfl, fun w hSw => by (try dsimp only at hSw); go_simp⟩) (by assumption) ?_
          refine wpAnyH_take (i := 2) (v := .slice (some ⟨b, off, none⟩) L.length d2) rfl (by kernel_rfl) (by kernel_rfl) (by kernel_rfl) (fun _ _ _ h => h) (Or.inl ⟨by kernel_rfl, fun w hSw => by (try dsimp only at hSw); go_simp⟩) (by assumption) ?_
          refine wpAnyH_take (i := 3) (v := .int .i64 (k : Int)) rfl (by kernel_rfl) (by kernel_rfl) (by kernel_rfl) (fun _ _ _ h => h) (Or.inl ⟨by kernel_rfl, fun w hSw => by (try dsimp only at hSw); go_simp⟩) (by assumption) ?_
          refine wpAnyH_take (i := 4) (v := .pointer (some ⟨b, off + k, none⟩)) rfl (by kernel_rfl) (by kernel_rfl) (by kernel_rfl) (fun _ _ _ h => h) (Or.inl ⟨by kernel_rfl, fun w hSw => by (try dsimp only at hSw); go_simp⟩) (by assumption) ?_
          refine wpAnyH_take (i := 5) (v := .int .i64 y) rfl (by kernel_rfl) (by kernel_rfl) (by kernel_rfl) (fun _ _ _ h => h) (Or.inl ⟨by kernel_rfl, fun w hSw => by (try dsimp only at hSw); go_simp⟩) (by assumption) ?_
          refine wpAnyH_take (i := 6) (v := .bool false) rfl (by kernel_rfl) (by kernel_rfl) (by kernel_rfl) (fun _ _ _ h => h) (Or.inl ⟨by kernel_rfl, fun w hSw => by (try dsimp only at hSw); go_simp⟩) (by assumption) ?_
          refine wpAnyH_take (i := 7) (v := .bool false) rfl (by kernel_rfl) (by kernel_rfl) (by kernel_rfl) (fun _ _ _ h => h) (Or.inl ⟨by kernel_rfl, fun w hSw => by (try dsimp only at hSw); go_simp⟩) (by assumption) ?_
          refine wpAnyH_take (i := 8) (v := .bool false) rfl (by kernel_rfl) (by kernel_rfl) (by kernel_rfl) (fun _ _ _ h => h) (Or.inl ⟨by kernel_rfl, fun w hSw => by (try dsimp only at hSw); go_simp⟩) (by assumption) ?_
          refine wpAnyH_take (i := 9) (v := .slice (some ⟨b, off, none⟩) L.length d2) rfl (by kernel_rfl) (by kernel_rfl) (by kernel_rfl) (fun _ _ _ h => h) (Or.inl ⟨by kernel_rfl, fun w hSw => by (try dsimp only at hSw); go_simp⟩) (by assumption) ?_
          refine wpAnyH_take (i := 10) (v := .int .i64 (k : Int)) rfl (by kernel_rfl) (by kernel_rfl) (by kernel_rfl) (fun _ _ _ h => h) (Or.inl ⟨by kernel_rfl, fun w hSw => by (try dsimp only at hSw); go_simp⟩) (by assumption) ?_
          refine wpAnyH_take (i := 11) (v := .pointer (some ⟨b, off + k, none⟩)) rfl (by kernel_rfl) (by kernel_rfl) (by kernel_rfl) (fun _ _ _ h => h) (Or.inl ⟨by kernel_rfl, fun w hSw => by (try dsimp only at hSw); go_simp⟩) (by assumption) ?_
          refine wpAnyH_take (i := 12) (v := .int .i64 y) rfl (by kernel_rfl) (by kernel_rfl) (by kernel_rfl) (fun _ _ _ h => h) (Or.inl ⟨by kernel_rfl, fun w hSw => by (try dsimp only at hSw); go_simp⟩) (by assumption) ?_
          refine wpAnyH_take (i := 13) (v := .agg #[.int .i64 r, .slice A n c]) rfl (by kernel_rfl) (by kernel_rfl) (by kernel_rfl) (fun _ _ _ h => h) (Or.inl ⟨by kernel_rfl, fun w hSw => by (try dsimp only at hSw); go_simp⟩) (by assumption) ?_
          try simp only [Act.put]
          refine wpAnyH_ready (rs := [14]) (by kernel_rfl) (by simp) ?_
          refine AllReadyH.cons rfl (fun K hK => ?_) AllReadyH.nil
          go_simp
          go_at_call 16
          refine (HC1.out _ (HRD.out _ (by first | exact HBW.out | exact HBW.out.drew))).mono ?_
          rintro e w5 ⟨rfl, hb5⟩
          have HBW := Lib.hid ((show Below W.heap.size W _ from by first | exact HBW.out | exact HBW.out.drew).trans (hb5.mono (by exact HBW.out.size)))
          have HBR := Lib.hid ((show Below wr.heap.size wr _ from by first | exact HBR.out | exact HBR.out.drew).trans (hb5.mono (by exact HBR.out.size)))
          clear c0 c1 hc1 hb5
          obtain ⟨c0, c1⟩ := HX.out _ HBW.out
          have hc1 := HCK.out _ HBR.out
          try go_wp2_with fail
          refine hK.out _ _ ⟨c0, c1, hc1⟩ (fun hHeld => ?_)
          clear hK K
          try simp only [Act.put]
          refine wpAnyH_take (i := 15) (v := .bool false) rfl (by kernel_rfl) (by kernel_rfl) (by kernel_rfl) (fun _ _ _ h => h) (Or.inl ⟨by kernel_rfl, fun w hSw => by (try dsimp only at hSw); go_simp⟩) (by assumption) ?_
          refine wpAnyH_take (i := 16) (v := .bool false) rfl (by kernel_rfl) (by kernel_rfl) (by kernel_rfl) (fun _ _ _ h => h) (Or.inl ⟨by kernel_rfl, fun w hSw => by (try dsimp only at hSw); go_simp⟩) (by assumption) ?_
          refine wpAnyH_take (i := 17) (v := .bool false) rfl (by kernel_rfl) (by kernel_rfl) (by kernel_rfl) (fun _ _ _ h => h) (Or.inl ⟨by kernel_rfl, fun w hSw => by (try dsimp only at hSw); go_simp⟩) (by assumption) ?_
          refine wpAnyH_take (i := 18) (v := .int .i64 (k : Int)) rfl (by kernel_rfl) (by kernel_rfl) (by kernel_rfl) (fun _ _ _ h => h) (Or.inl ⟨by kernel_rfl, fun w hSw => by (try dsimp only at hSw); go_simp⟩) (by assumption) ?_
          refine wpAnyH_take (i := 19) (v := .bool false) rfl (by kernel_rfl) (by kernel_rfl) (by kernel_rfl) (fun _ _ _ h => h) (Or.inl ⟨by kernel_rfl, fun w hSw => by (try dsimp only at hSw); go_simp⟩) (by assumption) ?_
          refine wpAnyH_take (i := 20) (v := .bool false) rfl (by kernel_rfl) (by kernel_rfl) (by kernel_rfl) (fun _ _ _ h => h) (Or.inl ⟨by kernel_rfl, fun w hSw => by (try dsimp only at hSw); go_simp⟩) (by assumption) ?_
          refine wpAnyH_take (i := 21) (v := undef) rfl (by kernel_rfl) (by kernel_rfl) (by kernel_rfl) (fun _ _ _ h => h) (Or.inr ⟨by kernel_rfl, rfl⟩) (by assumption) ?_
          refine wpAnyH_take (i := 22) (v := undef) rfl (by kernel_rfl) (by kernel_rfl) (by kernel_rfl) (fun _ _ _ h => h) (Or.inr ⟨by kernel_rfl, rfl⟩) (by assumption) ?_
          refine wpAnyH_take (i := 23) (v := undef) rfl (by kernel_rfl) (by kernel_rfl) (by kernel_rfl) (fun _ _ _ h => h) (Or.inr ⟨by kernel_rfl, rfl⟩) (by assumption) ?_
          refine wpAnyH_take (i := 24) (v := undef) rfl (by kernel_rfl) (by kernel_rfl) (by kernel_rfl) (fun _ _ _ h => h) (Or.inr ⟨by kernel_rfl, rfl⟩) (by assumption) ?_
          refine wpAnyH_take (i := 25) (v := undef) rfl (by kernel_rfl) (by kernel_rfl) (by kernel_rfl) (fun _ _ _ h => h) (Or.inr ⟨by kernel_rfl, rfl⟩) (by assumption) ?_
          refine wpAnyH_take (i := 26) (v := undef) rfl (by kernel_rfl) (by kernel_rfl) (by kernel_rfl) (fun _ _ _ h => h) (Or.inr ⟨by kernel_rfl, rfl⟩) (by assumption) ?_
          refine wpAnyH_take (i := 27) (v := undef) rfl (by kernel_rfl) (by kernel_rfl) (by kernel_rfl) (fun _ _ _ h => h) (Or.inr ⟨by kernel_rfl, rfl⟩) (by assumption) ?_
          refine wpAnyH_take (i := 28) (v := undef) rfl (by kernel_rfl) (by kernel_rfl) (by kernel_rfl) (fun _ _ _ h => h) (Or.inr ⟨by kernel_rfl, rfl⟩) (by assumption) ?_
          refine wpAnyH_take (i := 29) (v := undef) rfl (by kernel_rfl) (by kernel_rfl) (by kernel_rfl) (fun _ _ _ h => h) (Or.inr ⟨by kernel_rfl, rfl⟩) (by assumption) ?_
          refine wpAnyH_take (i := 30) (v := undef) rfl (by kernel_rfl) (by kernel_rfl) (by kernel_rfl) (fun _ _ _ h => h) (Or.inr ⟨by kernel_rfl, rfl⟩) (by assumption) ?_
          refine wpAnyH_take (i := 31) (v := .bool false) rfl (by kernel_rfl) (by kernel_rfl) (by kernel_rfl) (fun _ _ _ h => h) (Or.inl ⟨by kernel_rfl, fun w hSw => by (try dsimp only at hSw); go_simp⟩) (by assumption) ?_
          refine wpAnyH_take (i := 32) (v := .bool false) rfl (by kernel_rfl) (by kernel_rfl) (by kernel_rfl) (fun _ _ _ h => h) (Or.inl ⟨by kernel_rfl, fun w hSw => by (try dsimp only at hSw); go_simp⟩) (by assumption) ?_
          refine wpAnyH_done (by kernel_rfl) ?_ _
          go_simp
          go_wp2
          go_roundw
          case rel => exact ⟨k + 1, by omega, by go_num, by first | exact HBO.out.trans (HBR.out.mono HBO.out.size) | exact (HBO.out.trans (HBR.out.mono HBO.out.size)).drew⟩
          case measure => simp [intOf]; omega
        · have hc2 := hcell (k - 1) (by omega)
          have HCL := Lib.hid (fun (w4 : World) (h4 : Below wr.heap.size wr w4) => (h4.cell (p := ⟨b, off + (k - 1), none⟩) (lt_of_cell hc2)).trans hc2)
          have p5 := p4 (k - 1) (by omega)
          have k2 : decide (0 < k) = true := by simp; omega
          have k3 : decide ((0 : Int) < (k : Int)) = true := by simp; omega
          have k4 : IntKind.i64.wrap ((k : Int) - 1) = ((k - 1 : Nat) : Int) := (IntWalk.i64_in _ (by omega)).trans (by omega)
          have k5 : (0 : Int) ≤ ((k - 1 : Nat) : Int) := by omega
          have k6 : ((k - 1 : Nat) : Int) < (L.length : Int) := by omega
          generalize L.getD (k - 1) 0 = z at *
          have y2 : decide (y ≤ z) = false := by simp; omega
          generalize hkk : k - 1 = k9 at *
          have HKK := Lib.hid hkk
          clear hcell p4 hbw hy hkk
          go_wp2_with fail
          refine (HHY.out _ (HTD.out _ HBW.out)).mono ?_
          rintro e w4 ⟨rfl, rfl⟩
          rw [HP1.out]
          go_wp2_with fail
          go_region_held3 (fun w' => w'.cell? ⟨w.heap.size, 0, none⟩ = some (.int .i64 r) ∧ w'.cell? ⟨w.heap.size, 1, none⟩ = some (.slice A n c) ∧ w'.cell? ⟨b, off + k, none⟩ = some (.int .i64 y) ∧ w'.cell? ⟨b, off + k9, none⟩ = some (.int .i64 z)) (first | exact ⟨by assumption, by assumption, by assumption, by assumption⟩ | go_keep) (first | (go_at_call 16; refine (HC1.out _ (HRD.out _ (by first | exact HBW.out | exact HBW.out.drew))).mono ?_; rintro e w5 ⟨rfl, hb5⟩; have HBW := Lib.hid ((show Below W.heap.size W _ from by first | exact HBW.out | exact HBW.out.drew).trans (hb5.mono (by exact HBW.out.size))); have HBR := Lib.hid ((show Below wr.heap.size wr _ from by first | exact HBR.out | exact HBR.out.drew).trans (hb5.mono (by exact HBR.out.size))); clear c0 c1 hc1 hc2 hb5; obtain ⟨c0, c1⟩ := HX.out _ HBW.out; have hc1 := HCK.out _ HBR.out; have hc2 := HCL.out _ HBR.out))
          all_goals
            go_wp2
            go_roundw
            case rel => exact ⟨k + 1, by omega, by go_num, by first | exact HBO.out.trans (HBR.out.mono HBO.out.size) | exact (HBO.out.trans (HBR.out.mono HBO.out.size)).drew⟩
            case measure => simp [intOf]; omega
      · obtain rfl : k = L.length := by omega
        have hlm := HLM.out
        clear hbw
        go_wp2
        go_ret
        exact ⟨ret_bool (by simp), HB.out.trans (HBW.out.mono HB.out.size)⟩
  · have hne : E ≠ 0 := by omega
    obtain rfl := HNI.out hne
    clear HNI HEA HCA HO2
    rcases h0 with rfl | rfl
    all_goals
      go_wp2
      go_ret
      exact ⟨by first | rfl | exact ret_bool (by simp), HB2.out⟩
end Go.Proofs.YtnmmpiddmckghaaDoor.Se
