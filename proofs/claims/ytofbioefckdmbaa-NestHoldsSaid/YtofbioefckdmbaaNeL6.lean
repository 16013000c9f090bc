/-
  Layer 14, that the law NestFalls answers true. Conditions: the parts can be read, each a float's bits; no more of them than there is room.
-/
import Derived.Test.YtofbioefckdmbaaNeL1
namespace Go.Proofs.Ytofbioefckdmbaa.Ne
open Go.RowKit Go.Proofs.Ytofbioefckdmbaa.Qu Go.Proofs.Ytofbioefckdmbaa.Fld
open Go.Proofs.Ytofbioefckdmbaa.Fr (LV LV_bd)
set_option linter.unusedVariables false

theorem lim_bd {s : Int} {zs : List Nat} (h0 : 0 ≤ s) (h1 : s ≤ 10000) (hz : ∀ i, i < zs.length → zs.getD i 0 < 18446744073709551616) : ∀ k, k < zs.length → 0 ≤ lim s zs k ∧ lim s zs k ≤ 10000
  | 0, _ => ⟨h0, h1⟩
  | k + 1, hk => by
    have ih := lim_bd h0 h1 hz k (by omega)
    have := LV_bd _ (hz (k + 1) hk) s h0 h1
    rw [lim_succ]
    omega
theorem lim_fall (s : Int) (zs : List Nat) (k : Nat) : lim s zs (k + 1) ≤ lim s zs k := by rw [lim_succ]; omega
theorem frm_zero (n : Nat) : ∀ k, frm (List.replicate n (0 : Int)) k = 0 := by
  intro k
  unfold frm
  rw [List.drop_replicate]
  simp
theorem lim_right {s : Int} {zs : List Nat} (h : ¬ badP s zs) (hz : ∀ i, i < zs.length → zs.getD i 0 < 18446744073709551616) : rightP (limL s zs zs.length) (List.replicate zs.length 0) := by
  unfold badP at h
  have hb := fun k hk => lim_bd (s := s) (zs := zs) (by omega) (by omega) hz k hk
  refine ⟨⟨by rw [limL_len]; omega, by rw [limL_len]; omega, fun i hi => ?_, fun i hi h0 => ?_⟩, by simp [limL_len], fun i hi => ?_, fun k hk => ?_⟩
  · rw [limL_len] at hi
    rw [limL_at s zs _ i hi]
    exact hb i hi
  · rw [limL_len] at hi
    obtain ⟨j, rfl⟩ : ∃ j, i = j + 1 := ⟨i - 1, by omega⟩
    rw [Nat.add_sub_cancel, limL_at s zs _ _ hi, limL_at s zs _ _ (by omega)]
    exact lim_fall s zs j
  · rw [List.length_replicate] at hi
    simp [hi]
  · rw [limL_len] at hk
    rw [frm_zero, limL_at s zs _ k hk]
    exact (hb k hk).1
set_option maxRecDepth 100000 in
set_option maxHeartbeats 3200000 in
theorem falls_walk (s : Int) (A : Option Addr) (n cap : Nat) (zs : List Nat) (w : World) (hr : Fr.RdF w A n zs) (hz : ∀ i, i < n → zs.getD i 0 < 18446744073709551616) (hn : n ≤ cap) (hm : cap ≤ 9223372036854775807) :
    Calls Try.prog 8 #[.int .i64 s, .slice A n cap] w fun e w' => e = .returned (.bool true) ∧ Below w.heap.size w w' := by
  have HAW := Lib.hid (awake_any w)
  have H1 := Lib.hid (fun (W : World) (hW : Below w.heap.size w W) => lims_any s A n cap zs W (rdF_below hr hW) hz hn hm)
  have HL := Lib.hid hr.1
  have HZ := Lib.hid hz
  clear hr hz
  by_cases hbad : badP s zs
  · have e1 : limsE s zs = 1 := by unfold limsE; rw [if_pos hbad]
    have e2 : limsV s zs = [] := by unfold limsV; rw [if_pos hbad]
    rw [e1, e2] at H1
    unfold badP at hbad
    rw [HL.out] at hbad
    have hcase : s < 0 ∨ (¬ s < 0 ∧ 10000 < s) ∨ (¬ s < 0 ∧ ¬ 10000 < s ∧ n < 1) ∨ (¬ s < 0 ∧ ¬ 10000 < s ∧ ¬ n < 1 ∧ 8 < n) := by omega
    clear hbad e1 e2
    rcases hcase with h | ⟨h, h'⟩ | ⟨h, h', h''⟩ | ⟨h, h', h'', h3⟩
    all_goals
      go_enter Try.func8, Try.ntmps8
      go_wp2_with fail
      refine HAW.out.mono ?_
      rintro e w1 ⟨rfl, hb1⟩
      have HB := Lib.hid hb1
      clear hb1
      go_wp2_with fail
      refine (H1.out _ HB.out).mono ?_
      rintro e w2 ⟨B1, c1, rfl, hr1, hb2⟩
      have HB := Lib.hid (HB.out.trans (hb2.mono HB.out.size))
      clear hb2 hr1
      go_wp2
      go_ret
      exact ⟨by simp <;> omega, HB.out⟩
  · have e1 : limsE s zs = 0 := by unfold limsE; rw [if_neg hbad]
    have e2 : limsV s zs = limL s zs n := by unfold limsV; rw [if_neg hbad, HL.out]
    have HRP := Lib.hid (show rightB (limL s zs n) (List.replicate n 0) = true by
      have := lim_right hbad (by rw [HL.out]; exact HZ.out)
      rw [HL.out] at this
      exact dec_t this)
    unfold badP at hbad
    rw [HL.out] at hbad
    have HBD := Lib.hid (fun k (hk : k < n) => lim_bd (s := s) (zs := zs) (by omega) (by omega) (by rw [HL.out]; exact HZ.out) k (by rw [HL.out]; exact hk))
    have hn1 : 1 ≤ n := by omega
    have hn8 : n ≤ 8 := by omega
    rw [e1, e2] at H1
    have HLN := Lib.hid (limL_len s zs n)
    have HAT := Lib.hid (fun i (hi : i < n) => limL_at s zs n i hi)
    clear hbad e1 e2
    generalize limL s zs n = K at *
    have hmk := fun W => run_mkI n (by omega) W
    have q0 : ((n : Int) == (n : Int)) = true := by simp
    go_enter Try.func8, Try.ntmps8
    go_wp2_with fail
    refine HAW.out.mono ?_
    rintro e w1 ⟨rfl, hb1⟩
    have HB := Lib.hid hb1
    clear hb1
    go_wp2_with fail
    refine (H1.out _ HB.out).mono ?_
    rintro e w2 ⟨B1, c1, rfl, hr1, hb2⟩
    have HB := Lib.hid (HB.out.trans (hb2.mono HB.out.size))
    rw [HLN.out] at hr1 ⊢
    obtain ⟨b, off, rfl, hcell⟩ := hr1.2.2 (by omega)
    have HC := Lib.hid hcell
    have HR1 := Lib.hid hr1
    clear hb2 hcell hr1
    go_wp2
    go_loopw [8] (fun i wr => ∃ k d : Nat, k + 1 ≤ n ∧ i = .int .i64 ((k + 1 : Nat) : Int) ∧ wr = w2.drewN d) (fun i _ => n - (intOf i).toNat)
    case atStart => exact ⟨0, 0, by omega, rfl, rfl⟩
    case round =>
      obtain ⟨k, d, hk, rfl, rfl⟩ := hrel
      by_cases hlt : k + 1 < n
      · have g1 : (w2.drewN d).cell? ⟨b, off + (k + 1), none⟩ = some (.int .i64 (K.getD (k + 1) 0)) := HC.out (k + 1) hlt
        have g0 : (w2.drewN d).cell? ⟨b, off + k, none⟩ = some (.int .i64 (K.getD k 0)) := HC.out k (by omega)
        rw [HAT.out (k + 1) hlt] at g1
        rw [HAT.out k (by omega)] at g0
        have b1 := HBD.out (k + 1) hlt
        have b0 := lim_fall s zs k
        generalize lim s zs (k + 1) = y at *
        generalize lim s zs k = x at *
        have q1 : decide (x < y) = false := decide_eq_false (by omega)
        have q2 : decide (y < 0) = false := decide_eq_false (by omega)
        obtain ⟨u, hu⟩ : ∃ u, k + 1 = u := ⟨_, rfl⟩
        have e1 : IntKind.i64.wrap ((u : Int) - 1) = (k : Int) := by
          simp only [IntKind.wrap, IntKind.bits, IntKind.signed]
          simp
          omega
        have u0 : (0 : Int) ≤ (u : Int) := by omega
        have u1 : (u : Int) < (n : Int) := by omega
        have k0 : (0 : Int) ≤ (k : Int) := by omega
        have k1 : (k : Int) < (n : Int) := by omega
        have HU := Lib.hid hu
        simp only [hu] at g1 ⊢
        clear hu b1 b0
        generalize hw3 : w2.drewN d = w3 at *
        have HW3 := Lib.hid hw3
        clear hw3
        go_wp2_with fail
        go_quiet (fail)
        have HW4 := Lib.hid (show w3.drewN nq = w2.drewN (d + nq) by rw [← HW3.out, drew_add])
        clear g1 g0
        go_wp2
        go_roundw
        case rel => exact ⟨u, d + nq, by omega, by go_num, HW4.out⟩
        case measure => have := HU.out; simp [intOf]; omega
      · obtain ⟨u, hu⟩ : ∃ u, k + 1 = u := ⟨_, rfl⟩
        rw [hu] at hk hlt ⊢
        obtain rfl : u = n := by omega
        clear hu
        have g0 : (w2.drewN d).cell? ⟨b, off, none⟩ = some (.int .i64 (K.getD 0 0)) := HC.out 0 (by omega)
        rw [HAT.out 0 (by omega), lim_zero] at g0
        have q3 : (s == s) = true := by simp
        have HBD3 := Lib.hid (HB.out.trans ((below_dr w2 d).mono HB.out.size))
        have HR3 := Lib.hid (HR1.out.below (below_dr w2 d))
        generalize w2.drewN d = w3 at *
        have hb4 := alloc_below w3 (.cells (iRow (List.replicate u 0)) 3)
        have HRT := Lib.hid (right_any (some ⟨b, off, none⟩) u c1 K (some ⟨w3.heap.size, 0, none⟩) u u (List.replicate u 0) (w3.alloc (.cells (iRow (List.replicate u 0)) 3)) (HR3.out.below hb4) ⟨by simp, by unfold maxLen; omega, fun _ => ⟨_, 0, rfl, fun i hi => by rw [Nat.zero_add]; exact (Blk.new w3 _ _).cell i _ (iRow_at _ i (by simp; omega))⟩⟩)
        rw [HRP.out] at HRT
        have HB4 := Lib.hid (HBD3.out.trans (hb4.mono HBD3.out.size))
        clear hb4
        go_wp2_with fail
        refine HRT.out.mono ?_
        rintro e w5 ⟨rfl, hb5⟩
        have HB5 := Lib.hid (HB4.out.trans (hb5.mono HB4.out.size))
        clear hb5
        go_wp2
        go_ret
        exact ⟨rfl, HB5.out⟩
end Go.Proofs.Ytofbioefckdmbaa.Ne
