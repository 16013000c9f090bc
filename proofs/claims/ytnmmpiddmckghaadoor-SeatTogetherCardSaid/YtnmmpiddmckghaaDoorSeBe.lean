/-
  Layer 13: together and Best of the program. Conditions: the groups and the seats can be read.
-/
import Derived.Test.YtnmmpiddmckghaaDoorSeFe
import Derived.BigQuiet
import Derived.Deep.QuietTactic
import Derived.Deep.RegionWith
namespace Go.Proofs.YtnmmpiddmckghaaDoor.Se
open Go.RowKit Go.Proofs.YtnmmpiddmckghaaDoor.Qu Go.Proofs.YtnmmpiddmckghaaDoor.Fld
set_option linter.unusedVariables false

theorem togI_found {gs fr : List Int} {m k : Nat} (h : tog gs fr m k = none) (ho : okAt gs fr m k = true) (hk : k < fr.length - m + 1) : togI gs fr m = k := by
  unfold togI
  rw [tog_found h ho hk]
  rfl
theorem togI_none {gs fr : List Int} {m : Nat} (h : tog gs fr m (fr.length - m + 1) = none) : togI gs fr m = 0 := by
  unfold togI
  rw [h]
  rfl
set_option maxRecDepth 100000 in
set_option maxHeartbeats 3200000 in
theorem together_any (r : Int) (A : Option Addr) (n c : Nat) (gs : List Int) (T : Option Addr) (tn tc : Nat) (fr : List Int) (m : Nat) (w : World) (hr : RdI w A n gs) (ht : RdI w T tn fr)
    (hs : szOk gs = true) (hl : n ≤ 4) (hS : 1 ≤ gs.sum) (hm1 : 1 ≤ m) (hm2 : m ≤ tn) (hm3 : tn ≤ 600) (hel : ∀ j, j < tn → 0 ≤ fr.getD j 0 ∧ fr.getD j 0 ≤ 600) :
    Calls Tryd.prog 33 #[layV r A n c, .slice T tn tc, .int .i64 (m : Int)] w fun e w' => e = .returned (.int .i64 (togI gs fr m : Nat)) ∧ Below w.heap.size w w' := by
  have hb := alloc_below w (layO r A n c)
  have hr' := RdI.below hr hb
  have HK := layO_blk w r A n c
  unfold layO at *
  obtain ⟨W, hW⟩ : ∃ W, w.alloc (.cells #[.int .i64 r, .slice A n c] 24) = W := ⟨_, rfl⟩
  rw [hW] at hb hr' HK
  have HW := Lib.hid hW
  have HB := Lib.hid hb
  have HRD := Lib.hid (fun (w2 : World) (h2 : Below W.heap.size W w2) => hr'.below h2)
  have HX := Lib.hid (fun (w2 : World) (h2 : Below W.heap.size W w2) => (⟨(HK.below h2).cell 0 _ rfl, (HK.below h2).cell 1 _ rfl⟩ : w2.cell? ⟨w.heap.size, 0, none⟩ = some (.int .i64 r) ∧ w2.cell? ⟨w.heap.size, 1, none⟩ = some (.slice A n c)))
  have HBW := Lib.hid (Below.refl W.heap.size W)
  have ht' := ht.below hb
  have HTD := Lib.hid (fun (w2 : World) (h2 : Below W.heap.size W w2) => ht'.below h2)
  have HG := Lib.hid (fun (x : Int) (w2 : World) (h2 : RdI w2 A n gs) h0 h1 => group_any r A n c gs x w2 h2 hs hl hS h0 h1)
  have hgl := hr.1
  have htl := ht.1
  have HFO := Lib.hid (fun k => togI_found (gs := gs) (fr := fr) (m := m) (k := k))
  have HNO := Lib.hid (togI_none (gs := gs) (fr := fr) (m := m))
  have HSO := Lib.hid (fun k => tog_succ_no (gs := gs) (fr := fr) (m := m) (k := k))
  have HOK := Lib.hid (show ∀ k, okAt gs fr m k = (decide (fr.getD (k + m - 1) 0 = fr.getD k 0 + m - 1) && decide (fr.getD (k + m - 1) 0 < bhd gs (fr.getD k 0))) from fun k => rfl)
  have HEL := Lib.hid hel
  rw [htl] at HFO HNO
  have HBD := Lib.hid (fun (x : Int) h0 => (fst_bd hs hS (n := x) h0).2.2.2.2)
  unfold layV at *
  clear hr hr' HK hb hW ht ht' hel
  obtain ⟨c0, c1⟩ := HX.out _ (Below.refl _ _)
  generalize togI gs fr m = TI at *
  have e0 : ((tn - m + 1 : Nat) : Int) = (tn : Int) - (m : Int) + 1 := by omega
  go_enter Tryd.func33, Tryd.ntmps33
  go_wp2_with (first | rw [HW.out] | fail)
  go_loopw [17] (fun i wr => ∃ k : Nat, k ≤ tn - m + 1 ∧ i = .int .i64 k ∧ Below W.heap.size W wr ∧ tog gs fr m k = none) (fun i _ => (tn - m + 1) - (intOf i).toNat)
  case atStart => exact ⟨0, by omega, rfl, Below.refl _ _, rfl⟩
  case round =>
    obtain ⟨k, hk, rfl, hbw, hno⟩ := hrel
    have HBW := Lib.hid hbw
    have HN := Lib.hid hno
    obtain ⟨c0, c1⟩ := HX.out _ hbw
    clear hno
    by_cases hlt : k < tn - m + 1
    · have hlt2 : (k : Int) < (tn : Int) - (m : Int) + 1 := by omega
      obtain ⟨b, off, rfl, hcell⟩ := (HTD.out _ hbw).2.2 (by omega)
      have hc1 := hcell k (by omega)
      have hc2 := hcell (k + m - 1) (by omega)
      have h1 := HEL.out k (by omega)
      have h2 := HEL.out (k + m - 1) (by omega)
      have HO := Lib.hid (HOK.out k)
      have HF1 := Lib.hid (HFO.out k HN.out)
      have HS1 := Lib.hid (HSO.out k HN.out)
      have q1 : IntKind.i64.wrap ((k : Int) + (m : Int)) = (k : Int) + (m : Int) := IntWalk.i64_in _ (by omega)
      have q2 : IntKind.i64.wrap ((k : Int) + (m : Int) - 1) = ((k + m - 1 : Nat) : Int) := (IntWalk.i64_in _ (by omega)).trans (by omega)
      have k0 : (0 : Int) ≤ (k : Int) := by omega
      have k1 : (k : Int) < (tn : Int) := by omega
      have k2 : (0 : Int) ≤ ((k + m - 1 : Nat) : Int) := by omega
      have k3 : ((k + m - 1 : Nat) : Int) < (tn : Int) := by omega
      clear hcell hbw
      generalize fr.getD k 0 = f at *
      generalize fr.getD (k + m - 1) 0 = l at *
      generalize hp : k + m - 1 = p at *
      have HG1 := Lib.hid (fun w2 h2 => HG.out f w2 h2 h1.1 (by omega))
      generalize fst gs f = F1 at *
      generalize bhd gs f = B1 at *
      clear hp
      go_wp2_with fail
      go_quiet (fail)
      have HBW := Lib.hid (show Below W.heap.size W (wr.drewN nq) from HBW.out.trans ((below_dr wr nq).mono HBW.out.size))
      generalize wr.drewN nq = w2 at *
      clear c0 c1 hc1 hc2
      obtain ⟨c0, c1⟩ := HX.out _ HBW.out
      go_wp2_with fail
      refine (HG1.out _ (HRD.out _ HBW.out)).mono ?_
      rintro e w3 ⟨rfl, hb3⟩
      have HBW := Lib.hid (HBW.out.trans (hb3.mono HBW.out.size))
      clear hb3 c0 c1
      have q3 : IntKind.i64.wrap (f + (m : Int)) = f + (m : Int) := IntWalk.i64_in _ (by omega)
      have q4 : IntKind.i64.wrap (f + (m : Int) - 1) = f + (m : Int) - 1 := IntWalk.i64_in _ (by omega)
      by_cases h3 : l = f + (m : Int) - 1
      · have h3' : (l == f + (m : Int) - 1) = true := by simpa using h3
        by_cases h4 : l < B1
        · have HT0 := Lib.hid (HF1.out (by rw [HO.out, decide_eq_true h3, decide_eq_true h4]; rfl) hlt)
          clear h3
          go_wp2
          go_ret
          exact ⟨by rw [HT0.out]; rfl, HB.out.trans (HBW.out.mono HB.out.size)⟩
        · have HN2 := Lib.hid (HS1.out (by rw [HO.out, decide_eq_false h4, Bool.and_false]))
          clear h3
          go_wp2
          go_roundw
          case rel => exact ⟨k + 1, by omega, by go_num, HBW.out, HN2.out⟩
          case measure => simp [intOf]; omega
      · have h3' : (l == f + (m : Int) - 1) = false := by simpa using h3
        have HN2 := Lib.hid (HS1.out (by rw [HO.out, decide_eq_false h3, Bool.false_and]))
        clear h3
        go_wp2
        go_roundw
        case rel => exact ⟨k + 1, by omega, by go_num, HBW.out, HN2.out⟩
        case measure => simp [intOf]; omega
    · obtain rfl : k = tn - m + 1 := by omega
      have HT0 := Lib.hid (HNO.out HN.out)
      go_wp2
      go_ret
      exact ⟨by rw [HT0.out]; rfl, HB.out.trans (HBW.out.mono HB.out.size)⟩
end Go.Proofs.YtnmmpiddmckghaaDoor.Se
