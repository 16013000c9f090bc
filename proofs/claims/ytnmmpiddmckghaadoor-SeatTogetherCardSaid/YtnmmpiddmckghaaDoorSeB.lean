/-
  Layer 13, the document's own across and Right, and Count and has of both. Conditions: the groups can be read.
-/
import Derived.Test.YtnmmpiddmckghaaDoorSeA
import Derived.Deep.RegionHeld3
namespace Go.Proofs.YtnmmpiddmckghaaDoor.Se
open Go.RowKit Go.Proofs.YtnmmpiddmckghaaDoor.Qu Go.Proofs.YtnmmpiddmckghaaDoor.Fld
set_option linter.unusedVariables false

set_option maxRecDepth 100000 in
set_option maxHeartbeats 1600000 in
theorem racross_any (r : Int) (A : Option Addr) (n c : Nat) (gs : List Int) (w : World) (hr : RdI w A n gs) (hs : szOk gs = true) (hl : n ≤ 4) :
    Calls Tryd.prog 29 #[layV r A n c] w fun e w' => e = .returned (.int .i64 gs.sum) ∧ Below w.heap.size w w' := by
  have hb := alloc_below w (layO r A n c)
  have HB := Lib.hid hb
  have HK := Lib.hid (layO_blk w r A n c)
  obtain ⟨hgl, hm, hc⟩ := RdI.below hr hb
  unfold layO at *
  have HL := Lib.hid hgl
  have HC := Lib.hid hc
  have HP := Lib.hid (fun k (h : k < n) => pre_succ gs k (by rw [hgl]; exact h))
  have HD := Lib.hid (fun k (h : k ≤ n) => pre_bd hs k (by rw [hgl]; exact h))
  have HZ := Lib.hid (fun k (h : k < n) => sz_at hs k (by rw [hgl]; exact h))
  have HF := Lib.hid (show pre gs n = gs.sum by rw [← hgl]; exact pre_all gs)
  unfold layV
  clear hb hr hgl hc hs
  have c1 := HK.out.cell 1 _ rfl
  go_enter Tryd.func29, Tryd.ntmps29
  go_wp2
  go_loop [3, 4] (fun s i => ∃ k : Nat, k ≤ n ∧ i = .int .i64 k ∧ s = .int .i64 (pre gs k)) (fun _ i => n - (intOf i).toNat)
  case atStart => exact ⟨0, Nat.zero_le _, rfl, rfl⟩
  case round =>
    obtain ⟨k, hk, rfl, rfl⟩ := hrel
    by_cases hlt : k < n
    · obtain ⟨b, off, rfl, hcell⟩ := HC.out (by omega)
      have hc := hcell k hlt
      clear hcell
      have HP1 := Lib.hid (HP.out k hlt)
      have hz := HZ.out k hlt
      have hd := HD.out k hk
      generalize gs.getD k 0 = y at *
      generalize pre gs k = p at *
      go_wp2
      go_roundw
      case rel => exact ⟨k + 1, by omega, by go_num, by rw [HP1.out]⟩
      case measure => simp [intOf]; omega
    · obtain rfl : k = n := by omega
      go_wp2
      go_ret
      exact ⟨by rw [HF.out]; rfl, HB.out⟩
set_option maxRecDepth 100000 in
set_option maxHeartbeats 1600000 in
theorem rright_any (r : Int) (A : Option Addr) (n c : Nat) (gs : List Int) (w : World) (hr : RdI w A n gs) :
    Calls Tryd.prog 15 #[layV r A n c] w fun e w' => e = .returned (.bool (layOk r gs)) ∧ Below w.heap.size w w' := by
  have hb := alloc_below w (layO r A n c)
  have HB := Lib.hid hb
  have HK := Lib.hid (layO_blk w r A n c)
  have hr' := RdI.below hr hb
  have HAC := Lib.hid (fun hs hl => racross_any r A n c gs (w.alloc (layO r A n c)) hr' hs hl)
  obtain ⟨hgl, hm, hc⟩ := hr'
  unfold maxLen at hm
  unfold layO at *
  have HL := Lib.hid hgl
  have HC := Lib.hid hc
  have HCUT := Lib.hid (fun k (h : k < n) => sz_cut (gs := gs) (k := k) (by rw [hgl]; exact h))
  have HSU := Lib.hid (fun k (h : k < n) => sz_succ (gs := gs) (k := k) (by rw [hgl]; exact h))
  obtain ⟨L, hL⟩ : ∃ L, layOk r gs = L := ⟨_, rfl⟩
  have HLO := Lib.hid (show layOk r gs = (decide (1 ≤ r) && decide (r ≤ 60) && decide (1 ≤ n) && decide (n ≤ 4) && szOk gs && decide (gs.sum ≤ 10)) by unfold layOk; rw [hgl])
  rw [hL] at HLO ⊢
  unfold layV at *
  clear hb hr hgl hc hL
  have c0 := HK.out.cell 0 _ rfl
  have c1 := HK.out.cell 1 _ rfl
  by_cases h1 : r < 1
  · have HF := Lib.hid (show L = false by rw [HLO.out]; simp; omega)
    go_enter Tryd.func15, Tryd.ntmps15
    go_wp2
    go_ret
    exact ⟨by rw [HF.out]; rfl, HB.out⟩
  by_cases h2 : 60 < r
  · have HF := Lib.hid (show L = false by rw [HLO.out]; simp; omega)
    go_enter Tryd.func15, Tryd.ntmps15
    go_wp2
    go_ret
    exact ⟨by rw [HF.out]; rfl, HB.out⟩
  by_cases h3 : n < 1
  · have HF := Lib.hid (show L = false by rw [HLO.out]; simp; omega)
    go_enter Tryd.func15, Tryd.ntmps15
    go_wp2
    go_ret
    exact ⟨by rw [HF.out]; rfl, HB.out⟩
  by_cases h4 : 4 < n
  · have HF := Lib.hid (show L = false by rw [HLO.out]; simp; omega)
    go_enter Tryd.func15, Tryd.ntmps15
    go_wp2
    go_ret
    exact ⟨by rw [HF.out]; rfl, HB.out⟩
  have HLP := Lib.hid (show L = (szOk gs && decide (gs.sum ≤ 10)) by rw [HLO.out, decide_eq_true (show 1 ≤ r by omega), decide_eq_true (show r ≤ 60 by omega), decide_eq_true (show 1 ≤ n by omega), decide_eq_true (show n ≤ 4 by omega)]; rfl)
  clear HLO
  go_enter Tryd.func15, Tryd.ntmps15
  go_wp2
  go_loop [3] (fun i => ∃ k : Nat, k ≤ n ∧ i = .int .i64 k ∧ szOk (gs.take k) = true) (fun i => n - (intOf i).toNat)
  case atStart => exact ⟨0, Nat.zero_le _, rfl, rfl⟩
  case round =>
    obtain ⟨k, hk, rfl, hall⟩ := hrel
    have HA := Lib.hid hall
    clear hall
    by_cases hlt : k < n
    · obtain ⟨b, off, rfl, hcell⟩ := HC.out (by omega)
      have hc := hcell k hlt
      clear hcell
      have HC1 := Lib.hid (HCUT.out k hlt)
      have HS1 := Lib.hid (HSU.out k hlt)
      generalize gs.getD k 0 = y at *
      by_cases h5 : y < 1
      · have HF := Lib.hid (show L = false by rw [HLP.out, HC1.out (by omega)]; rfl)
        go_wp2
        go_ret
        exact ⟨by rw [HF.out]; rfl, HB.out⟩
      by_cases h6 : 10 < y
      · have HF := Lib.hid (show L = false by rw [HLP.out, HC1.out (by omega)]; rfl)
        go_wp2
        go_ret
        exact ⟨by rw [HF.out]; rfl, HB.out⟩
      have HS2 := Lib.hid (HS1.out HA.out ⟨by omega, by omega⟩)
      go_wp2
      go_roundw
      case rel => exact ⟨k + 1, by omega, by go_num, HS2.out⟩
      case measure => simp [intOf]; omega
    · obtain rfl : k = n := by omega
      have HZ := Lib.hid (show szOk gs = true by have := HA.out; rwa [← HL.out, List.take_length] at this)
      have HA2 := Lib.hid (HAC.out HZ.out (by omega))
      have HF := Lib.hid (show L = decide (gs.sum ≤ 10) by rw [HLP.out, HZ.out]; rfl)
      generalize gs.sum = s at *
      go_wp2_with fail
      refine HA2.out.mono ?_
      rintro e w1 ⟨rfl, hb1⟩
      have HB1 := Lib.hid (HB.out.trans (hb1.mono HB.out.size))
      clear hb1
      go_wp2
      go_ret
      exact ⟨by rw [HF.out]; rfl, HB1.out⟩
set_option maxRecDepth 100000 in
set_option maxHeartbeats 1600000 in
theorem count_any (r : Int) (A : Option Addr) (n c : Nat) (gs : List Int) (w : World) (hr : RdI w A n gs) :
    Calls Tryd.prog 16 #[layV r A n c] w fun e w' => e = .returned (.int .i64 (cntS r gs)) ∧ Below w.heap.size w w' := by
  have hb := alloc_below w (layO r A n c)
  have HB := Lib.hid hb
  have HK := Lib.hid (layO_blk w r A n c)
  have hr' := RdI.below hr hb
  have hgl := hr'.1
  have HR1 := Lib.hid (right_any r A n c gs (w.alloc (layO r A n c)) hr')
  have HR := Lib.hid hr'
  clear hr hb hr'
  unfold layO at *
  have HCS := Lib.hid (show cntS r gs = if layOk r gs = true then r * gs.sum else 0 by rfl)
  have HLO := Lib.hid (@lay_of r gs)
  generalize cntS r gs = K at *
  unfold layV at *
  have c0 := HK.out.cell 0 _ rfl
  have c1 := HK.out.cell 1 _ rfl
  cases hL : layOk r gs with
  | false =>
    have HF := Lib.hid (show K = 0 by rw [HCS.out, hL]; rfl)
    rw [hL] at HR1
    clear HCS HLO hL
    go_enter Tryd.func16, Tryd.ntmps16
    go_wp2_with fail
    refine HR1.out.mono ?_
    rintro e w1 ⟨rfl, hb1⟩
    have HB1 := Lib.hid (HB.out.trans (hb1.mono HB.out.size))
    clear hb1
    go_wp2
    go_ret
    exact ⟨by rw [HF.out]; rfl, HB1.out⟩
  | true =>
    have HF := Lib.hid (show K = r * gs.sum by rw [HCS.out, hL]; rfl)
    obtain ⟨k1, k2, k3, k4, k5, k6, k7⟩ := HLO.out hL
    rw [hL] at HR1
    have HAC := Lib.hid (fun (w2 : World) (h2 : RdI w2 A n gs) => across_any r A n c gs w2 h2 k5 (by omega))
    unfold layV at *
    clear HCS HLO hL k5
    go_enter Tryd.func16, Tryd.ntmps16
    go_wp2_with fail
    refine HR1.out.mono ?_
    rintro e w1 ⟨rfl, hb1⟩
    have HB1 := Lib.hid (HB.out.trans (hb1.mono HB.out.size))
    have K1 := HK.out.below hb1
    have HR2 := Lib.hid (RdI.below HR.out hb1)
    clear hb1 c0 c1 HK HR
    have c0 := K1.cell 0 (.int .i64 r) rfl
    have c1 := K1.cell 1 (.slice A n c) rfl
    have HX := Lib.hid (fun (w2 : World) (h2 : Below w1.heap.size w1 w2) => (⟨(K1.below h2).cell 0 _ rfl, (K1.below h2).cell 1 _ rfl⟩ : w2.cell? ⟨w.heap.size, 0, none⟩ = some (.int .i64 r) ∧ w2.cell? ⟨w.heap.size, 1, none⟩ = some (.slice A n c)))
    clear K1
    generalize gs.sum = s at *
    have h8 : 0 ≤ r * s := Int.mul_nonneg (by omega) (by omega)
    have h9 : r * s ≤ 60 * 10 := Int.mul_le_mul k2 k6 (by omega) (by omega)
    go_wp2_with fail
    go_region_held3 (fun w' => w'.cell? ⟨w.heap.size, 0, none⟩ = some (.int .i64 r) ∧ w'.cell? ⟨w.heap.size, 1, none⟩ = some (.slice A n c)) (first | exact ⟨by assumption, by assumption⟩ | go_keep) (first | (go_at_call 28; refine (HAC.out _ (by first | exact HR2.out | exact HR2.out.same (fun _ => rfl))).mono ?_; rintro e w2 ⟨rfl, hb2⟩; have HB2 := Lib.hid ((show Below w1.heap.size w1 _ from by first | exact Below.refl _ _ | exact (Below.refl _ _).drew).trans (hb2.mono (Nat.le_refl _))); clear c0 c1 hb2; obtain ⟨c0, c1⟩ := HX.out _ HB2.out))
    all_goals
      go_wp2
      go_ret
      exact ⟨by rw [HF.out]; exact ret_int (IntWalk.i64_in _ (by omega)), HB1.out.trans (HB2.out.mono HB1.out.size)⟩
set_option maxRecDepth 100000 in
set_option maxHeartbeats 1600000 in
theorem rcount_any (r : Int) (A : Option Addr) (n c : Nat) (gs : List Int) (w : World) (hr : RdI w A n gs) :
    Calls Tryd.prog 17 #[layV r A n c] w fun e w' => e = .returned (.int .i64 (cntS r gs)) ∧ Below w.heap.size w w' := by
  have hb := alloc_below w (layO r A n c)
  have HB := Lib.hid hb
  have HK := Lib.hid (layO_blk w r A n c)
  have hr' := RdI.below hr hb
  have hgl := hr'.1
  have HR1 := Lib.hid (rright_any r A n c gs (w.alloc (layO r A n c)) hr')
  have HR := Lib.hid hr'
  clear hr hb hr'
  unfold layO at *
  have HCS := Lib.hid (show cntS r gs = if layOk r gs = true then r * gs.sum else 0 by rfl)
  have HLO := Lib.hid (@lay_of r gs)
  generalize cntS r gs = K at *
  unfold layV at *
  have c0 := HK.out.cell 0 _ rfl
  have c1 := HK.out.cell 1 _ rfl
  cases hL : layOk r gs with
  | false =>
    have HF := Lib.hid (show K = 0 by rw [HCS.out, hL]; rfl)
    rw [hL] at HR1
    clear HCS HLO hL
    go_enter Tryd.func17, Tryd.ntmps17
    go_wp2_with fail
    refine HR1.out.mono ?_
    rintro e w1 ⟨rfl, hb1⟩
    have HB1 := Lib.hid (HB.out.trans (hb1.mono HB.out.size))
    clear hb1
    go_wp2
    go_ret
    exact ⟨by rw [HF.out]; rfl, HB1.out⟩
  | true =>
    have HF := Lib.hid (show K = r * gs.sum by rw [HCS.out, hL]; rfl)
    obtain ⟨k1, k2, k3, k4, k5, k6, k7⟩ := HLO.out hL
    rw [hL] at HR1
    have HAC := Lib.hid (fun (w2 : World) (h2 : RdI w2 A n gs) => racross_any r A n c gs w2 h2 k5 (by omega))
    unfold layV at *
    clear HCS HLO hL k5
    go_enter Tryd.func17, Tryd.ntmps17
    go_wp2_with fail
    refine HR1.out.mono ?_
    rintro e w1 ⟨rfl, hb1⟩
    have HB1 := Lib.hid (HB.out.trans (hb1.mono HB.out.size))
    have K1 := HK.out.below hb1
    have HR2 := Lib.hid (RdI.below HR.out hb1)
    clear hb1 c0 c1 HK HR
    have c0 := K1.cell 0 (.int .i64 r) rfl
    have c1 := K1.cell 1 (.slice A n c) rfl
    have HX := Lib.hid (fun (w2 : World) (h2 : Below w1.heap.size w1 w2) => (⟨(K1.below h2).cell 0 _ rfl, (K1.below h2).cell 1 _ rfl⟩ : w2.cell? ⟨w.heap.size, 0, none⟩ = some (.int .i64 r) ∧ w2.cell? ⟨w.heap.size, 1, none⟩ = some (.slice A n c)))
    clear K1
    generalize gs.sum = s at *
    have h8 : 0 ≤ r * s := Int.mul_nonneg (by omega) (by omega)
    have h9 : r * s ≤ 60 * 10 := Int.mul_le_mul k2 k6 (by omega) (by omega)
    go_wp2_with fail
    go_region_held3 (fun w' => w'.cell? ⟨w.heap.size, 0, none⟩ = some (.int .i64 r) ∧ w'.cell? ⟨w.heap.size, 1, none⟩ = some (.slice A n c)) (first | exact ⟨by assumption, by assumption⟩ | go_keep) (first | (go_at_call 29; refine (HAC.out _ (by first | exact HR2.out | exact HR2.out.same (fun _ => rfl))).mono ?_; rintro e w2 ⟨rfl, hb2⟩; have HB2 := Lib.hid ((show Below w1.heap.size w1 _ from by first | exact Below.refl _ _ | exact (Below.refl _ _).drew).trans (hb2.mono (Nat.le_refl _))); clear c0 c1 hb2; obtain ⟨c0, c1⟩ := HX.out _ HB2.out))
    all_goals
      go_wp2
      go_ret
      exact ⟨by rw [HF.out]; exact ret_int (IntWalk.i64_in _ (by omega)), HB1.out.trans (HB2.out.mono HB1.out.size)⟩
end Go.Proofs.YtnmmpiddmckghaaDoor.Se
