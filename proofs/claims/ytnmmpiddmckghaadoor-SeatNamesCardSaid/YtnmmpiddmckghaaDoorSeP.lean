/-
  Layer 13: Label of the document's own. Conditions: the groups can be read.
-/
import Derived.Test.YtnmmpiddmckghaaDoorSeG
import Derived.Test.YtnmmpiddmckghaaDoorSeB
namespace Go.Proofs.YtnmmpiddmckghaaDoor.Se
open Go.RowKit Go.Proofs.YtnmmpiddmckghaaDoor.Qu Go.Proofs.YtnmmpiddmckghaaDoor.Fld
set_option linter.unusedVariables false

/-- the name's bytes as numbers -/
def letZ (m : Nat) : Int := ((letU.getD m 0).toNat : Nat)
def labI (q m : Nat) : List Int := (if q + 1 < 10 then [] else [48 + ((q : Int) + 1) / 10]) ++ [48 + ((q : Int) + 1) % 10, letZ m]
set_option maxRecDepth 100000 in
theorem labI_str : ∀ row, row < 60 → ∀ col, col < 10 → str (labI row col) = labS row col := by
  have key : ∀ row, row < 60 → ∀ col, col < 10 → (labI row col).map (fun n => UInt8.ofNat n.toNat) = labU row col := by decide +kernel
  intro row hr col hc
  have h1 : (str (labI row col)).data.toList = (labS row col).data.toList := by
    rw [str_data, key row hr col hc]
    rfl
  generalize str (labI row col) = a at *
  obtain ⟨⟨a⟩⟩ := a
  unfold labS at *
  simp at h1
  rw [h1]
theorem let_get (m : Nat) (hm : m < 10) (h : m < (⟨#[65, 66, 67, 68, 69, 70, 71, 72, 74, 75]⟩ : ByteArray).size) : (((⟨#[65, 66, 67, 68, 69, 70, 71, 72, 74, 75]⟩ : ByteArray)[m]'h).toNat : Int) = letZ m := by
  rcases (show m = 0 ∨ m = 1 ∨ m = 2 ∨ m = 3 ∨ m = 4 ∨ m = 5 ∨ m = 6 ∨ m = 7 ∨ m = 8 ∨ m = 9 from by omega) with rfl | rfl | rfl | rfl | rfl | rfl | rfl | rfl | rfl | rfl <;> rfl
theorem u8_bd (b : UInt8) : 0 ≤ ((b.toNat : Nat) : Int) ∧ ((b.toNat : Nat) : Int) ≤ 255 := by
  have := b.toNat_lt
  omega
theorem Rd.one (w : World) (a : Int) (ha : 0 ≤ a ∧ a ≤ 255) : Rd (w.alloc (.cells #[.int .u8 a] 5)) (some ⟨w.heap.size, 0, none⟩) 1 [a] := by
  refine ⟨rfl, by unfold maxLen; omega, bytes_cons ha.1 ha.2 bytes_nil, fun _ => ⟨_, _, rfl, fun i hi => ?_⟩⟩
  rw [World.cell?_alloc_mark, Nat.zero_add]
  obtain rfl : i = 0 := by omega
  rfl
set_option maxRecDepth 100000 in
set_option maxHeartbeats 3200000 in
theorem rlabel_any (r : Int) (A : Option Addr) (n c : Nat) (gs : List Int) (x : Int) (w : World) (hr : RdI w A n gs) (hx : -9223372036854775808 ≤ x ∧ x ≤ 9223372036854775807) :
    Calls Tryd.prog 19 #[layV r A n c, .int .i64 x] w fun e w' => e = .returned (.tuple #[.string (lblS r gs x), .int .i64 (lblE r gs x)]) ∧ Below w.heap.size w w' := by
  have hb := alloc_below w (layO r A n c)
  have hr' := RdI.below hr hb
  have HK := layO_blk w r A n c
  unfold layO at *
  obtain ⟨W, hW⟩ : ∃ W, w.alloc (.cells #[.int .i64 r, .slice A n c] 24) = W := ⟨_, rfl⟩
  rw [hW] at hb hr' HK
  have HW := Lib.hid hW
  have HB := Lib.hid hb
  have HRD := Lib.hid (fun (w2 : World) (h2 : Below W.heap.size W w2) => hr'.below h2)
  have HX := Lib.hid (fun (w2 : World) (h2 : Below W.heap.size W w2) => (⟨(HK.below h2).cell 0 _ rfl, (HK.below h2).cell 1 _ rfl⟩ : w2.cell? ⟨w.heap.size, 0, none⟩ = some (.int .i64 r) ∧ w2.cell? ⟨w.heap.size, 1, none⟩ = some (.slice A n c)))
  have HBW := Lib.hid (Below.refl W.heap.size W)
  have HC1 := Lib.hid (fun (w2 : World) (h2 : RdI w2 A n gs) => rcount_any r A n c gs w2 h2)
  have HROW := Lib.hid (fun h0 h1 => row_lt (r := r) (gs := gs) (n := x) h0 h1)
  have HLAY := Lib.hid (fun h0 h1 => lay_cnt (r := r) (gs := gs) (n := x) h0 h1)
  have HS1 := Lib.hid (show inS r gs x = false → lblS r gs x = ⟨#[]⟩ ∧ lblE r gs x = 1 by intro h; unfold lblS lblE; rw [h]; exact ⟨rfl, rfl⟩)
  have HS2 := Lib.hid (show inS r gs x = true → lblS r gs x = labS (x / gs.sum).toNat (x % gs.sum).toNat ∧ lblE r gs x = 0 by intro h; unfold lblS lblE; rw [h]; exact ⟨rfl, rfl⟩)
  have HIS := Lib.hid (show inS r gs x = (decide (0 ≤ x) && decide (x < cntS r gs)) from rfl)
  have hcb := (cnt_bd r gs).2
  have hgl := hr.1
  clear hr hr' HK hb hW
  obtain ⟨K, hK⟩ : ∃ K, cntS r gs = K := ⟨_, rfl⟩
  rw [hK] at HC1 HROW HLAY HIS hcb
  generalize inS r gs x = I at *
  clear hK
  obtain ⟨c0, c1⟩ := HX.out _ (Below.refl _ _)
  unfold layV at *
  by_cases h0 : x < 0
  · have HF := Lib.hid (HS1.out (by rw [HIS.out, decide_eq_false (show ¬ 0 ≤ x by omega)]; rfl))
    clear HS1 HS2 HIS HROW HLAY HC1
    go_enter Tryd.func19, Tryd.ntmps19
    go_wp2_with (first | rw [HW.out] | fail)
    go_ret2
    exact ⟨by rw [HF.out.1, HF.out.2]; rfl, HB.out⟩
  by_cases h1 : K ≤ x
  · have HF := Lib.hid (HS1.out (by rw [HIS.out, decide_eq_false (show ¬ x < K by omega), Bool.and_false]))
    clear HS1 HS2 HIS HROW HLAY
    go_enter Tryd.func19, Tryd.ntmps19
    go_wp2_with (first | rw [HW.out] | fail)
    refine (HC1.out _ (HRD.out _ HBW.out)).mono ?_
    rintro e w2 ⟨rfl, hb2⟩
    have HB2 := Lib.hid (HB.out.trans (hb2.mono HB.out.size))
    clear hb2
    go_wp2
    go_ret2
    exact ⟨by rw [HF.out.1, HF.out.2]; rfl, HB2.out⟩
  have hx0 : 0 ≤ x := by omega
  have hx1 : x < K := by omega
  obtain ⟨hl, _⟩ := HLAY.out hx0 hx1
  obtain ⟨k1, k2, k3, k4, k5, k6, k7⟩ := lay_of hl
  obtain ⟨a1, a2, a3, a4, a5⟩ := HROW.out hx0 hx1
  have HS := Lib.hid (HS2.out (by rw [HIS.out, decide_eq_true hx0, decide_eq_true hx1]; rfl))
  have HA := Lib.hid (fun (w2 : World) (h2 : RdI w2 A n gs) => racross_any r A n c gs w2 h2 k5 (by omega))
  unfold layV at *
  clear HS1 HS2 HIS HROW HLAY hl k5 a5
  generalize gs.sum = S at *
  have hS0 : ¬ S = 0 := by omega
  have hS1 : (S == 0) = false := by simp; omega
  have hS2 : ¬ S = -1 := by omega
  obtain ⟨q, hq⟩ : ∃ q : Nat, x / S = q := ⟨(x / S).toNat, by omega⟩
  obtain ⟨m, hm⟩ : ∃ m : Nat, x % S = m := ⟨(x % S).toNat, by omega⟩
  rw [hq, hm, Int.toNat_natCast, Int.toNat_natCast] at HS
  have hq9 : q < 60 := by omega
  have hm9 : m < 10 := by omega
  have HLB := Lib.hid (labI_str q hq9 m hm9)
  have HQ := Lib.hid hq
  have HM := Lib.hid hm
  generalize labS q m = LB at *
  go_enter Tryd.func19, Tryd.ntmps19
  go_wp2_with (first | rw [HW.out] | fail)
  refine (HC1.out _ (HRD.out _ HBW.out)).mono ?_
  rintro e w2 ⟨rfl, hb2⟩
  have HBW := Lib.hid (HBW.out.trans hb2)
  clear hb2 c0 c1
  obtain ⟨c0, c1⟩ := HX.out _ HBW.out
  go_wp2_with fail
  refine (HA.out _ (HRD.out _ HBW.out)).mono ?_
  rintro e w3 ⟨rfl, hb3⟩
  have HBW := Lib.hid (HBW.out.trans (hb3.mono HBW.out.size))
  clear hb3 c0 c1
  obtain ⟨c0, c1⟩ := HX.out _ HBW.out
  have HBW3 := Lib.hid (HB.out.trans (HBW.out.mono HB.out.size))
  by_cases h10 : q + 1 < 10
  · go_wp2_with fail
    refine (HA.out _ (HRD.out _ HBW.out)).mono ?_
    rintro e w5 ⟨rfl, hb5⟩
    have HB5 := Lib.hid (HBW3.out.trans (hb5.mono HBW3.out.size))
    clear hb5 c0 c1
    have HLB2 := Lib.hid (show str ([] ++ [48 + ((q : Int) + 1) % 10, letZ m]) = LB by have := HLB.out; unfold labI at this; rw [if_pos h10] at this; exact this)
    go_wp2_with (at_builtin; refine wpList_append_rd rfl _ _ rfl w (.slice none 0 0) [] rfl (Own.nil w _ (HB5.out.trans ((alloc_below _ _).mono HB5.out.size))) _ 2 2 [_, _] rfl (fun h => by cases h) (Rd.two w5 _ _ ⟨by omega, by omega⟩ (u8_bd _)) (by simp) ?_; intro v6 w6 hO6 _ _; rw [let_get m hm9] at hO6; have HB6 := Lib.hid hO6.1; obtain ⟨A6, cap6, rfl, hrd6, _⟩ := hO6.form 2 rfl; have hcv := conv_str hrd6 cap6; clear hO6 hrd6)
    go_ret2
    exact ⟨by rw [HS.out.1, HS.out.2, ← HLB2.out]; rfl, HB6.out⟩
  · go_wp2_with (at_builtin; refine wpList_append_rd rfl _ _ rfl w (.slice none 0 0) [] rfl (Own.nil w _ (HBW3.out.trans ((alloc_below _ _).mono HBW3.out.size))) _ 1 1 [48 + ((q : Int) + 1) / 10] rfl (fun h => by cases h) (Rd.one w3 _ ⟨by omega, by omega⟩) (by simp) ?_; intro v4 w4 hO4 hg4 _; have HO4 := Lib.hid hO4; have HBW := Lib.hid ((HBW.out.trans ((alloc_below _ _).mono HBW.out.size)).grown hg4 (HBW.out.trans ((alloc_below _ _).mono HBW.out.size)).size (fun q hq => by cases hq)); clear hO4 hg4 c0 c1; obtain ⟨c0, c1⟩ := HX.out _ HBW.out)
    refine (HA.out _ (HRD.out _ HBW.out)).mono ?_
    rintro e w5 ⟨rfl, hb5⟩
    have HO5 := Lib.hid (HO4.out.below hb5)
    clear hb5 c0 c1
    have HLB2 := Lib.hid (show str ([] ++ [48 + ((q : Int) + 1) / 10] ++ [48 + ((q : Int) + 1) % 10, letZ m]) = LB by have := HLB.out; unfold labI at this; rw [if_neg h10] at this; exact this)
    go_wp2_with (at_builtin; refine wpList_append_rd rfl _ _ rfl w v4 ([] ++ [48 + ((q : Int) + 1) / 10]) rfl (HO5.out.below (alloc_below _ _)) _ 2 2 [_, _] rfl (fun h => by cases h) (Rd.two w5 _ _ ⟨by omega, by omega⟩ (u8_bd _)) (by simp) ?_; intro v6 w6 hO6 _ _; rw [let_get m hm9] at hO6; have HB6 := Lib.hid hO6.1; obtain ⟨A6, cap6, rfl, hrd6, _⟩ := hO6.form 3 rfl; have hcv := conv_str hrd6 cap6; clear hO6 hrd6)
    go_ret2
    exact ⟨by rw [HS.out.1, HS.out.2, ← HLB2.out]; rfl, HB6.out⟩
end Go.Proofs.YtnmmpiddmckghaaDoor.Se
