/-
  Layer 13: Best of the program. Conditions: the groups and the taken seats can be read.
-/
import Derived.Test.YtnmmpiddmckghaaDoorSeBe
namespace Go.Proofs.YtnmmpiddmckghaaDoor.Se
open Go.RowKit Go.Proofs.YtnmmpiddmckghaaDoor.Qu Go.Proofs.YtnmmpiddmckghaaDoor.Fld
set_option linter.unusedVariables false

/-- what Best answers: seats that can be read, and what is amiss -/
def BstIs (w : World) (l : List Int) (E : Int) (e : Ending) (w' : World) : Prop := ∃ (B : Option Addr) (cap : Nat), e = .returned (.tuple #[.slice B l.length cap, .int .i64 E]) ∧ RdI w' B l.length l ∧ Below w.heap.size w w'
theorem BstIs.none {w w' : World} {E : Int} {l : List Int} {e : Ending} (h : Below w.heap.size w w') (hl : l = []) (he : e = .returned (.tuple #[.slice Option.none 0 0, .int .i64 E])) : BstIs w l E e w' := by
  subst hl
  exact ⟨Option.none, 0, he, RdI.nil _ _, h⟩
theorem fr_el {r : Int} {gs tk : List Int} : ∀ j, j < (frN tk (cntS r gs).toNat).length → 0 ≤ (frN tk (cntS r gs).toNat).getD j 0 ∧ (frN tk (cntS r gs).toNat).getD j 0 ≤ 600 := by
  intro j hj
  have hx : (frN tk (cntS r gs).toNat).getD j 0 ∈ frN tk (cntS r gs).toNat := by rw [List.getD_eq_getElem?_getD, List.getElem?_eq_getElem hj]; exact List.getElem_mem _
  have h1 := (fr_mem tk _ _).1 hx
  have h2 := cnt_bd r gs
  omega
set_option maxRecDepth 100000 in
set_option maxHeartbeats 3200000 in
theorem best_any (r : Int) (A : Option Addr) (n c : Nat) (gs : List Int) (T : Option Addr) (tn tc : Nat) (tk : List Int) (m : Int) (w : World) (hr : RdI w A n gs) (ht : RdI w T tn tk) :
    Calls Tryd.prog 22 #[layV r A n c, .slice T tn tc, .int .i64 m] w (BstIs w (bstL r gs tk m) (bstE r gs tk m)) := by
  have hb := alloc_below w (layO r A n c)
  have hr' := RdI.below hr hb
  have HK := layO_blk w r A n c
  unfold layO at *
  obtain ⟨W, hW⟩ : ∃ W, w.alloc (.cells #[.int .i64 r, .slice A n c] 24) = W := ⟨_, rfl⟩
  rw [hW] at hb hr' HK
  have HW := Lib.hid hW
  have HB := Lib.hid hb
  have HRD := Lib.hid (fun (w2 : World) (h2 : Below W.heap.size W w2) => hr'.below h2)
  have HX := Lib.hid (fun (w2 : World) (h2 : Below W.heap.size W w2) => (⟨(HK.below h2).cell 0 _ rfl, (HK.below h2).cell 1 _ rfl⟩ : w2.cell? ⟨w.heap.size, 0, none⟩ = some (.int .i64 r) ∧ w2.cell? ⟨w.heap.size, 1, none⟩ = some (.slice A n c)))
  have HBW := Lib.hid (Below.refl W.heap.size W)
  have ht' := ht.below hb
  have HTD := Lib.hid (fun (w2 : World) (h2 : Below W.heap.size W w2) => ht'.below h2)
  have HC1 := Lib.hid (fun (w2 : World) (h2 : RdI w2 A n gs) => count_any r A n c gs w2 h2)
  have HFR := Lib.hid (fun (w2 : World) (h2 : RdI w2 A n gs) (h3 : RdI w2 T tn tk) => free_any r A n c gs T tn tc tk w2 h2 h3)
  have hgl := hr.1
  have hcb := cnt_bd r gs
  have hfl := fr_len tk (cntS r gs).toNat
  have HFE := Lib.hid (fr_el (r := r) (gs := gs) (tk := tk))
  have HE := Lib.hid (show bstE r gs tk m = if m < 1 ∨ cntS r gs < m then 1 else if ((frN tk (cntS r gs).toNat).length : Int) < m then 3 else 0 from rfl)
  have HL := Lib.hid (show bstL r gs tk m = if bstE r gs tk m = 0 then bestL gs (frN tk (cntS r gs).toNat) m.toNat else [] from rfl)
  have HLY := Lib.hid (show 0 < cntS r gs → layOk r gs = true by
    intro h
    exact (lay_cnt (n := 0) (Int.le_refl _) h).1)
  generalize bstE r gs tk m = E at *
  generalize bstL r gs tk m = L at *
  generalize frN tk (cntS r gs).toNat = fr at *
  generalize cntS r gs = K at *
  have HTO := Lib.hid (fun (U : Option Addr) (un uc : Nat) (M : Nat) (w2 : World) (h2 : RdI w2 A n gs) (h3 : RdI w2 U un fr) k1 k2 k3 k4 k5 k6 k7 => together_any r A n c gs U un uc fr M w2 h2 h3 k1 k2 k3 k4 k5 k6 k7)
  unfold layV at *
  clear hr hr' HK hb hW ht ht'
  obtain ⟨c0, c1⟩ := HX.out _ (Below.refl _ _)
  by_cases h1 : m < 1
  · have HE1 := Lib.hid (show E = 1 ∧ L = [] by
      have h : E = 1 := by rw [HE.out, if_pos (.inl h1)]
      exact ⟨h, by rw [HL.out, h]; rfl⟩)
    go_enter Tryd.func22, Tryd.ntmps22
    go_wp2_with (first | rw [HW.out] | fail)
    go_ret2
    exact BstIs.none HB.out HE1.out.2 (by rw [HE1.out.1]; rfl)
  by_cases h2 : K < m
  · have HE1 := Lib.hid (show E = 1 ∧ L = [] by
      have h : E = 1 := by rw [HE.out, if_pos (.inr h2)]
      exact ⟨h, by rw [HL.out, h]; rfl⟩)
    go_enter Tryd.func22, Tryd.ntmps22
    go_wp2_with (first | rw [HW.out] | fail)
    refine (HC1.out _ (HRD.out _ HBW.out)).mono ?_
    rintro e w2 ⟨rfl, hb2⟩
    have HBW := Lib.hid (HBW.out.trans (hb2.mono HBW.out.size))
    clear hb2 c0 c1
    obtain ⟨c0, c1⟩ := HX.out _ HBW.out
    go_wp2
    go_ret2
    exact BstIs.none (HB.out.trans (HBW.out.mono HB.out.size)) HE1.out.2 (by rw [HE1.out.1]; rfl)
  obtain ⟨M, rfl⟩ : ∃ M : Nat, m = M := ⟨m.toNat, by omega⟩
  obtain ⟨k1, k2, k3, k4, k5, k6, k7⟩ := lay_of (HLY.out (by omega))
  go_enter Tryd.func22, Tryd.ntmps22
  go_wp2_with (first | rw [HW.out] | fail)
  refine (HC1.out _ (HRD.out _ HBW.out)).mono ?_
  rintro e w2 ⟨rfl, hb2⟩
  have HBW := Lib.hid (HBW.out.trans (hb2.mono HBW.out.size))
  clear hb2 c0 c1
  obtain ⟨c0, c1⟩ := HX.out _ HBW.out
  go_wp2_with fail
  refine (HFR.out _ (HRD.out _ HBW.out) (HTD.out _ HBW.out)).mono ?_
  rintro e w3 ⟨v3, rfl, ho3⟩
  have HBW := Lib.hid (HBW.out.trans (ho3.1.mono HBW.out.size))
  obtain ⟨U, uc, rfl, hr3, hU, huc, hum, -⟩ := ho3.form (by omega)
  have HR3 := Lib.hid hr3
  clear c0 c1 ho3 hr3
  obtain ⟨c0, c1⟩ := HX.out _ HBW.out
  have hmm : ((M : Nat) : Int).toNat = M := Int.toNat_natCast M
  by_cases h3 : (fr.length : Int) < (M : Int)
  · have HE1 := Lib.hid (show E = 3 ∧ L = [] by
      have h : E = 3 := by rw [HE.out, if_neg (by omega), if_pos h3]
      exact ⟨h, by rw [HL.out, h]; rfl⟩)
    go_wp2
    go_ret2
    exact BstIs.none (HB.out.trans (HBW.out.mono HB.out.size)) HE1.out.2 (by rw [HE1.out.1]; rfl)
  have HE1 := Lib.hid (show E = 0 ∧ L = bestL gs fr M by
    have h : E = 0 := by rw [HE.out, if_neg (by omega), if_neg h3]
    exact ⟨h, by rw [HL.out, h, hmm]; rfl⟩)
  have htg := togI_le (gs := gs) (fr := fr) (m := M) (by omega)
  have hbl := best_len (gs := gs) (fr := fr) (m := M) (by omega)
  have HBL := Lib.hid (show bestL gs fr M = (fr.drop (togI gs fr M)).take M from rfl)
  have HT2 := Lib.hid (HTO.out U fr.length uc M _ (HRD.out _ HBW.out) HR3.out k5 (by omega) k7 (by omega) (by omega) (by omega) HFE.out)
  clear HTO hmm
  generalize togI gs fr M = F at *
  go_wp2_with fail
  refine HT2.out.mono ?_
  rintro e w4 ⟨rfl, hb4⟩
  have HB4 := Lib.hid (HB.out.trans ((HBW.out.trans (hb4.mono HBW.out.size)).mono HB.out.size))
  obtain ⟨U', uc', hrun, hr5, hU', huc'⟩ := tail_any (HR3.out.below hb4) hU huc (by unfold maxLen at hum; omega) F (by omega)
  have HR5 := Lib.hid (rdI_cut hr5 M (by omega))
  have hrun2 := fun W => run_upto3 U' (fr.length - F) uc' M hU' (by omega) W
  clear hb4 c0 c1 hr5 HT2
  go_wp2
  go_ret2
  refine ⟨U', M, ?_, ?_, HB4.out⟩
  · rw [HE1.out.1, HE1.out.2, hbl]; rfl
  · rw [HE1.out.2, hbl, HBL.out]; exact HR5.out
end Go.Proofs.YtnmmpiddmckghaaDoor.Se
