/-
  Layer 13: group of the document's own. Conditions: the groups can be read; the layout is valid and has the seat.
-/
import Derived.Test.YtnmmpiddmckghaaDoorSeC
namespace Go.Proofs.YtnmmpiddmckghaaDoor.Se
open Go.RowKit Go.Proofs.YtnmmpiddmckghaaDoor.Qu Go.Proofs.YtnmmpiddmckghaaDoor.Fld
set_option linter.unusedVariables false

theorem quo_grp {x S : Int} {n k : Nat} (h0 : 0 ≤ x) (h1 : x ≤ 1000) (hS : 1 ≤ S) (e4 : 0 ≤ x / S) (e5 : x / S ≤ 1000) (hn : n ≤ 4) (hk : k ≤ 4) :
    IntKind.i64.wrap (IntKind.i64.wrap (IntKind.i64.wrap (x.tdiv S) * ↑n) + ↑k) = x / S * ↑n + ↑k := by
  have m1 : 0 ≤ x / S * (n : Int) := Int.mul_nonneg e4 (by omega)
  have m2 : x / S * (n : Int) ≤ 1000 * 4 := Int.mul_le_mul e5 (by omega) (by omega) (by omega)
  rw [IntWalk.i64_quo x S ⟨h0, by omega, hS⟩, IntWalk.i64_in (x / S * (n : Int)) (by omega), IntWalk.i64_in _ (by omega)]
set_option maxRecDepth 100000 in
set_option maxHeartbeats 1600000 in
theorem rgroup_any (r : Int) (A : Option Addr) (n c : Nat) (gs : List Int) (x : Int) (w : World) (hr : RdI w A n gs) (hs : szOk gs = true) (hl : n ≤ 4) (hS : 1 ≤ gs.sum) (h0 : 0 ≤ x) (h1 : x ≤ 1000) :
    Calls Tryd.prog 27 #[layV r A n c, .int .i64 x] w fun e w' => e = .returned (.int .i64 (grp gs x)) ∧ Below w.heap.size w w' := by
  have hb := alloc_below w (layO r A n c)
  have HB := Lib.hid hb
  have HK := Lib.hid (layO_blk w r A n c)
  have hr' := RdI.below hr hb
  have HAC := Lib.hid (fun (w2 : World) (h2 : RdI w2 A n gs) => racross_any r A n c gs w2 h2 hs hl)
  have HR := Lib.hid hr'
  have hgl := hr'.1
  have HP := Lib.hid (fun k (h : k < n) => pre_succ gs k (by rw [hgl]; exact h))
  have HD := Lib.hid (fun k (h : k ≤ n) => pre_bd hs k (by rw [hgl]; exact h))
  have HZ := Lib.hid (fun k (h : k < n) => sz_at hs k (by rw [hgl]; exact h))
  have HF := Lib.hid (show pre gs n = gs.sum by rw [← hgl]; exact pre_all gs)
  have HG := Lib.hid (fun k (h : k < n) h2 h3 => gix_eq hs (c := x % gs.sum) (k := k) ⟨by rw [hgl]; exact h, h2, h3⟩)
  obtain ⟨e1, e2, e3, e4⟩ := split_at hS h0
  have e5 : x / gs.sum ≤ 1000 := Int.le_trans (Int.ediv_le_self _ h0) h1
  have hsm := (sum_le hs (by omega)).2
  have HQ := Lib.hid (show grp gs x = x / gs.sum * n + gix gs (x % gs.sum) by unfold grp; rw [hgl])
  have HE := Lib.hid e1
  clear hr hb hr' hs hgl e1
  generalize grp gs x = G1 at *
  unfold layO layV at *
  have c0 := HK.out.cell 0 (.int .i64 r) rfl
  have c1 := HK.out.cell 1 (.slice A n c) rfl
  generalize gs.sum = S at *
  go_enter Tryd.func27, Tryd.ntmps27
  go_wp2_with fail
  refine (HAC.out _ HR.out).mono ?_
  rintro e w1 ⟨rfl, hb1⟩
  have HB1 := Lib.hid (HB.out.trans (hb1.mono HB.out.size))
  have K1 := HK.out.below hb1
  have HR2 := RdI.below HR.out hb1
  have HR1 := Lib.hid HR2
  clear hb1 c0 c1 HK HR
  have c0 := K1.cell 0 (.int .i64 r) rfl
  have c1 := K1.cell 1 (.slice A n c) rfl
  have HX := Lib.hid (fun (w2 : World) (h2 : Below w1.heap.size w1 w2) => (⟨(K1.below h2).cell 0 _ rfl, (K1.below h2).cell 1 _ rfl⟩ : w2.cell? ⟨w.heap.size, 0, none⟩ = some (.int .i64 r) ∧ w2.cell? ⟨w.heap.size, 1, none⟩ = some (.slice A n c)))
  clear K1
  obtain ⟨_, hm, hcc⟩ := HR2
  have HCC := Lib.hid hcc
  unfold maxLen at hm
  clear hcc
  go_wp2
  go_loop [5, 6] (fun a i => ∃ (k : Nat), k ≤ n ∧ i = .int .i64 k ∧ a = .int .i64 (x % S - pre gs k) ∧ pre gs k ≤ x % S) (fun _ i => n - (intOf i).toNat)
  case atStart => exact ⟨0, Nat.zero_le _, rfl, by rw [pre_zero]; go_num, by rw [pre_zero]; omega⟩
  case round =>
    obtain ⟨k, hk, rfl, rfl, hpc⟩ := hrel
    have hd := HD.out k hk
    by_cases hlt : k < n
    · obtain ⟨b, off, rfl, hcell⟩ := HCC.out (by omega)
      have hc := hcell k hlt
      clear hcell
      have hz := HZ.out k hlt
      have HP1 := Lib.hid (HP.out k hlt)
      have HG1 := Lib.hid (HG.out k hlt hpc)
      have hp1 : pre gs (k + 1) = pre gs k + gs.getD k 0 := HP1.out
      by_cases hcz : x % S < pre gs k + gs.getD k 0
      · have HG2 := Lib.hid (HG1.out (by rw [hp1]; exact hcz))
        have HQ2 := Lib.hid (show G1 = x / S * n + k by have := HQ.out; rw [HG2.out] at this; exact this)
        clear HG1 HG2 hp1 HP1
        generalize gs.getD k 0 = y at *
        generalize pre gs k = p at *
        generalize hC : x % S = C at *
        have hlt2 : ¬ y ≤ C - p := by omega
        have hS0 : ¬ S = 0 := by omega
        have hS1 : (S == 0) = false := by simp; omega
        have hS2 : ¬ S = -1 := by omega
        go_wp2_with fail
        go_region_held3 (fun w' => w'.cell? ⟨w.heap.size, 0, none⟩ = some (.int .i64 r) ∧ w'.cell? ⟨w.heap.size, 1, none⟩ = some (.slice (some ⟨b, off, none⟩) n c)) (first | exact ⟨by assumption, by assumption⟩ | go_keep) (first | (go_at_call 29; refine (HAC.out _ (by first | exact HR1.out | exact HR1.out.same (fun _ => rfl))).mono ?_; rintro e w2 ⟨rfl, hb2⟩; have HB2 := Lib.hid ((show Below w1.heap.size w1 _ from by first | exact Below.refl _ _ | exact (Below.refl _ _).drew).trans (hb2.mono (Nat.le_refl _))); clear c0 c1 hb2; obtain ⟨c0, c1⟩ := HX.out _ HB2.out))
        all_goals
          go_wp2
          go_ret
          exact ⟨by rw [HQ2.out]; exact ret_int (quo_grp h0 h1 hS e4 e5 (by omega) (by omega)), HB1.out.trans (HB2.out.mono HB1.out.size)⟩
      · clear HG1 hp1
        generalize gs.getD k 0 = y at *
        generalize pre gs k = p at *
        generalize x % S = C at *
        have hlt2 : y ≤ C - p := by omega
        go_wp2
        go_roundw
        case rel => exact ⟨k + 1, by omega, by go_num, by rw [HP1.out]; go_num, by rw [HP1.out]; omega⟩
        case measure => simp [intOf]; omega
    · exfalso
      obtain rfl : k = n := by omega
      have := HF.out
      omega
end Go.Proofs.YtnmmpiddmckghaaDoor.Se
