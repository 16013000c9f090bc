/-
  Layer 13: Find of the document's own. Conditions: the groups can be read.
-/
import Derived.Test.YtnmmpiddmckghaaDoorSeP
namespace Go.Proofs.YtnmmpiddmckghaaDoor.Se
open Go.RowKit Go.Proofs.YtnmmpiddmckghaaDoor.Qu Go.Proofs.YtnmmpiddmckghaaDoor.Fld
set_option linter.unusedVariables false

theorem fnd_first {r : Int} {gs : List Int} {s : ByteArray} {k : Nat} (hk : (k : Int) < cntS r gs) (h : ((nm gs k).toList == s.toList) = true) : fndE r gs s.data.toList = 0 ∧ fndN r gs s.data.toList = k := by
  have := fnd_yes (r := r) (gs := gs) (n := k) (by omega) hk
  rw [beq_iff_eq.1 h, ByteArray.toList_eq] at this
  exact this
theorem fnd_not {r : Int} {gs : List Int} {s : ByteArray} (hl : layOk r gs = true) (h : ∀ j : Nat, (j : Int) < cntS r gs → ((nm gs j).toList == s.toList) = false) : fndE r gs s.data.toList = 2 ∧ fndN r gs s.data.toList = 0 := by
  rcases fnd_cases r gs s.data.toList with ⟨h1, _⟩ | ⟨_, h2⟩ | ⟨_, h2, h3, _⟩
  · rw [hl] at h1; cases h1
  · exfalso
    obtain ⟨a1, a2, a3⟩ := fnd_is h2
    have := h (fndN r gs s.data.toList).toNat (by omega)
    rw [show ((fndN r gs s.data.toList).toNat : Int) = fndN r gs s.data.toList by omega, a3, ByteArray.toList_eq] at this
    simp at this
  · exact ⟨h2, h3⟩
theorem lbl_in {r : Int} {gs : List Int} {k : Nat} (hk : (k : Int) < cntS r gs) : lblS r gs k = nm gs k ∧ lblE r gs k = 0 := by
  have : inS r gs k = true := by unfold inS; simp; omega
  unfold lblS lblE
  rw [this]
  exact ⟨rfl, rfl⟩
set_option maxRecDepth 100000 in
set_option maxHeartbeats 3200000 in
theorem rfind_any (r : Int) (A : Option Addr) (n c : Nat) (gs : List Int) (s : ByteArray) (w : World) (hr : RdI w A n gs) :
    Calls Tryd.prog 21 #[layV r A n c, .string s] w fun e w' => e = .returned (.tuple #[.int .i64 (fndN r gs s.data.toList), .int .i64 (fndE r gs s.data.toList)]) ∧ Below w.heap.size w w' := by
  have hb := alloc_below w (layO r A n c)
  have hr' := RdI.below hr hb
  have HK := layO_blk w r A n c
  unfold layO at *
  obtain ⟨W, hW⟩ : ∃ W, w.alloc (.cells #[.int .i64 r, .slice A n c] 24) = W := ⟨_, rfl⟩
  rw [hW] at hb hr' HK
  have HW := Lib.hid hW
  have HB := Lib.hid hb
  have HRD := Lib.hid (fun (w2 : World) (h2 : Below W.heap.size W w2) => hr'.below h2)
  have HX := Lib.hid (fun (w2 : World) (h2 : Below W.heap.size W w2) => (⟨(HK.below h2).cell 0 _ rfl, (HK.below h2).cell 1 _ rfl⟩ : w2.cell? ⟨w.heap.size, 0, none⟩ = some (.int .i64 r) ∧ w2.cell? ⟨w.heap.size, 1, none⟩ = some (.slice A n c)))
  have HBW := Lib.hid (Below.refl W.heap.size W)
  have HR1 := Lib.hid (fun (w2 : World) (h2 : RdI w2 A n gs) => rright_any r A n c gs w2 h2)
  have HC1 := Lib.hid (fun (w2 : World) (h2 : RdI w2 A n gs) => rcount_any r A n c gs w2 h2)
  have HLB := Lib.hid (fun (k : Nat) (hk : (k : Int) < cntS r gs) (w2 : World) (h2 : RdI w2 A n gs) => by
    have h := rlabel_any r A n c gs k w2 h2 (by have := cnt_bd r gs; omega)
    rw [(lbl_in hk).1, (lbl_in hk).2] at h
    exact h)
  have HF1 := Lib.hid (fun (k : Nat) (hk : (k : Int) < cntS r gs) h => fnd_first (s := s) hk h)
  have HF2 := Lib.hid (fun hl h => fnd_not (r := r) (gs := gs) (s := s) hl h)
  have HF3 := Lib.hid (show layOk r gs = false → fndE r gs s.data.toList = 1 ∧ fndN r gs s.data.toList = 0 by
    intro h
    rcases fnd_cases r gs s.data.toList with ⟨_, h2, h3⟩ | ⟨h1, _⟩ | ⟨h1, _⟩
    · exact ⟨h2, h3⟩
    · rw [h] at h1; cases h1
    · rw [h] at h1; cases h1)
  have hcb := cnt_bd r gs
  have hgl := hr.1
  clear hr hr' HK hb hW
  generalize fndE r gs s.data.toList = E at *
  generalize fndN r gs s.data.toList = F at *
  obtain ⟨K, hK⟩ : ∃ K, cntS r gs = K := ⟨_, rfl⟩
  rw [hK] at HC1 HLB HF1 HF2 hcb
  clear hK
  obtain ⟨c0, c1⟩ := HX.out _ (Below.refl _ _)
  cases hL : layOk r gs with
  | false =>
    have HE := Lib.hid (HF3.out hL)
    rw [hL] at HR1
    clear HF1 HF2 HF3 hL HLB
    unfold layV at *
    go_enter Tryd.func21, Tryd.ntmps21
    go_wp2_with (first | rw [HW.out] | fail)
    refine (HR1.out _ (HRD.out _ HBW.out)).mono ?_
    rintro e w2 ⟨rfl, hb2⟩
    have HB2 := Lib.hid (HB.out.trans (hb2.mono HB.out.size))
    clear hb2
    go_wp2
    go_ret2
    exact ⟨by rw [HE.out.1, HE.out.2]; rfl, HB2.out⟩
  | true =>
    have HE := Lib.hid (HF2.out hL)
    rw [hL] at HR1
    clear HF2 HF3 hL
    unfold layV at *
    go_enter Tryd.func21, Tryd.ntmps21
    go_wp2_with (first | rw [HW.out] | fail)
    refine (HR1.out _ (HRD.out _ HBW.out)).mono ?_
    rintro e w2 ⟨rfl, hb2⟩
    have HBW := Lib.hid (HBW.out.trans hb2)
    clear hb2 c0 c1
    go_wp2
    go_loopw [7] (fun i wr => ∃ k : Nat, (k : Int) ≤ K ∧ i = .int .i64 k ∧ Below W.heap.size W wr ∧ ∀ j : Nat, j < k → ((nm gs j).toList == s.toList) = false) (fun i _ => K.toNat - (intOf i).toNat)
    case atStart => exact ⟨0, by omega, rfl, HBW.out, fun j hj => by omega⟩
    case round =>
      obtain ⟨k, hk, rfl, hbw, hall⟩ := hrel
      have HA := Lib.hid hall
      have HBW := Lib.hid hbw
      clear hall hbw
      obtain ⟨c0, c1⟩ := HX.out _ HBW.out
      go_wp2_with fail
      refine (HC1.out _ (HRD.out _ HBW.out)).mono ?_
      rintro e w3 ⟨rfl, hb3⟩
      have HBW := Lib.hid (HBW.out.trans (hb3.mono HBW.out.size))
      clear hb3 c0 c1
      obtain ⟨c0, c1⟩ := HX.out _ HBW.out
      by_cases hlt : (k : Int) < K
      · have HF4 := Lib.hid (HF1.out k hlt)
        go_wp2_with fail
        refine (HLB.out k hlt _ (HRD.out _ HBW.out)).mono ?_
        rintro e w4 ⟨rfl, hb4⟩
        have HBW := Lib.hid (HBW.out.trans (hb4.mono HBW.out.size))
        have HB4 := Lib.hid (HB.out.trans (HBW.out.mono HB.out.size))
        clear hb4 c0 c1
        obtain ⟨c0, c1⟩ := HX.out _ HBW.out
        cases hb : ((nm gs k).toList == s.toList) with
        | true =>
          have HE2 := Lib.hid (HF4.out hb)
          generalize nm gs k = y at *
          go_wp2
          go_ret2
          exact ⟨by rw [HE2.out.1, HE2.out.2]; rfl, HB4.out⟩
        | false =>
          have HA2 := Lib.hid (show ∀ j : Nat, j < k + 1 → ((nm gs j).toList == s.toList) = false by
            intro j hj
            rcases Nat.lt_or_eq_of_le (Nat.le_of_lt_succ hj) with h | h
            · exact HA.out j h
            · subst h; exact hb)
          generalize nm gs k = y at *
          go_wp2
          go_roundw
          case rel => exact ⟨k + 1, by omega, by go_num, HBW.out, HA2.out⟩
          case measure => simp [intOf]; omega
      · have HE2 := Lib.hid (HE.out fun j hj => HA.out j (by omega))
        go_wp2
        go_ret2
        exact ⟨by rw [HE2.out.1, HE2.out.2]; rfl, HB.out.trans (HBW.out.mono HB.out.size)⟩
end Go.Proofs.YtnmmpiddmckghaaDoor.Se
