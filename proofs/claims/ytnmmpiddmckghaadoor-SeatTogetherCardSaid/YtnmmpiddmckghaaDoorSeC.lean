/-
  Layer 13: has and group of the program, group of the document's own. Conditions: the groups can be read; the layout is valid and has the seat.
-/
import Derived.Test.YtnmmpiddmckghaaDoorSeB
namespace Go.Proofs.YtnmmpiddmckghaaDoor.Se
open Go.RowKit Go.Proofs.YtnmmpiddmckghaaDoor.Qu Go.Proofs.YtnmmpiddmckghaaDoor.Fld
set_option linter.unusedVariables false

def inS (r : Int) (gs : List Int) (n : Int) : Bool := decide (0 ≤ n) && decide (n < cntS r gs)
set_option maxRecDepth 100000 in
set_option maxHeartbeats 1600000 in
theorem has_any (r : Int) (A : Option Addr) (n c : Nat) (gs : List Int) (x : Int) (w : World) (hr : RdI w A n gs) :
    Calls Tryd.prog 25 #[layV r A n c, .int .i64 x] w fun e w' => e = .returned (.bool (inS r gs x)) ∧ Below w.heap.size w w' := by
  have hb := alloc_below w (layO r A n c)
  have HB := Lib.hid hb
  have HK := Lib.hid (layO_blk w r A n c)
  have HC1 := Lib.hid (count_any r A n c gs (w.alloc (layO r A n c)) (RdI.below hr hb))
  clear hr hb
  unfold layO layV inS at *
  have c0 := HK.out.cell 0 (.int .i64 r) rfl
  have c1 := HK.out.cell 1 (.slice A n c) rfl
  generalize cntS r gs = K at *
  by_cases h0 : x < 0
  · go_enter Tryd.func25, Tryd.ntmps25
    go_wp2
    go_ret
    exact ⟨ret_bool (by rw [decide_eq_false (show ¬ 0 ≤ x by omega)]; rfl), HB.out⟩
  · have h1 : 0 ≤ x := by omega
    go_enter Tryd.func25, Tryd.ntmps25
    go_wp2_with fail
    refine HC1.out.mono ?_
    rintro e w1 ⟨rfl, hb1⟩
    have HB1 := Lib.hid (HB.out.trans (hb1.mono HB.out.size))
    clear hb1
    go_wp2
    go_ret
    exact ⟨ret_bool (by rw [decide_eq_true (show 0 ≤ x by omega)]; rfl), HB1.out⟩
set_option maxRecDepth 100000 in
set_option maxHeartbeats 1600000 in
theorem group_any (r : Int) (A : Option Addr) (n c : Nat) (gs : List Int) (x : Int) (w : World) (hr : RdI w A n gs) (hs : szOk gs = true) (hl : n ≤ 4) (hS : 1 ≤ gs.sum) (h0 : 0 ≤ x) (h1 : x ≤ 1000) :
    Calls Tryd.prog 26 #[layV r A n c, .int .i64 x] w fun e w' => e = .returned (.tuple #[.int .i64 (fst gs x), .int .i64 (bhd gs x)]) ∧ Below w.heap.size w w' := by
  have hb := alloc_below w (layO r A n c)
  have HB := Lib.hid hb
  have HK := Lib.hid (layO_blk w r A n c)
  have hr' := RdI.below hr hb
  have HA1 := Lib.hid (across_any r A n c gs (w.alloc (layO r A n c)) hr' hs hl)
  have HR := Lib.hid hr'
  have hgl := hr'.1
  have HP := Lib.hid (fun k (h : k < n) => pre_succ gs k (by rw [hgl]; exact h))
  have HD := Lib.hid (fun k (h : k ≤ n) => pre_bd hs k (by rw [hgl]; exact h))
  have HZ := Lib.hid (fun k (h : k < n) => sz_at hs k (by rw [hgl]; exact h))
  have HF := Lib.hid (show pre gs n = gs.sum by rw [← hgl]; exact pre_all gs)
  have HG := Lib.hid (fun k (h : k < n) h2 h3 => gix_eq hs (c := x % gs.sum) (k := k) ⟨by rw [hgl]; exact h, h2, h3⟩)
  obtain ⟨e1, e2, e3, e4⟩ := split_at hS h0
  have hsm := (sum_le hs (by omega)).2
  have HQ := Lib.hid (show fst gs x = x - x % gs.sum + pre gs (gix gs (x % gs.sum)) ∧ bhd gs x = x - x % gs.sum + pre gs (gix gs (x % gs.sum) + 1) from ⟨rfl, rfl⟩)
  have HE := Lib.hid e1
  clear hr hb hr' hs hgl e1
  generalize fst gs x = F1 at *
  generalize bhd gs x = B1 at *
  unfold layO layV at *
  have c0 := HK.out.cell 0 (.int .i64 r) rfl
  have c1 := HK.out.cell 1 (.slice A n c) rfl
  generalize gs.sum = S at *
  have hC := Lib.hid (show x % S = x % S from rfl)
  go_enter Tryd.func26, Tryd.ntmps26
  go_wp2_with fail
  refine HA1.out.mono ?_
  rintro e w1 ⟨rfl, hb1⟩
  have HB1 := Lib.hid (HB.out.trans (hb1.mono HB.out.size))
  have K1 := HK.out.below hb1
  have HR2 := RdI.below HR.out hb1
  clear hb1 c0 c1 HK HR
  have c0 := K1.cell 0 (.int .i64 r) rfl
  have c1 := K1.cell 1 (.slice A n c) rfl
  obtain ⟨_, hm, hcc⟩ := HR2
  have HCC := Lib.hid hcc
  unfold maxLen at hm
  clear hcc
  go_wp2
  go_loop [4, 5, 17] (fun f b i => ∃ (k : Nat) (z : Int), k ≤ n ∧ i = .int .i64 k ∧ f = .int .i64 z ∧ b = .int .i64 (x - x % S + pre gs k) ∧ pre gs k ≤ x % S) (fun _ _ i => n - (intOf i).toNat)
  case atStart => exact ⟨0, 0, Nat.zero_le _, rfl, rfl, by rw [pre_zero]; go_num, by rw [pre_zero]; omega⟩
  case round =>
    obtain ⟨k, z, hk, rfl, rfl, rfl, hpc⟩ := hrel
    have hd := HD.out k hk
    by_cases hlt : k < n
    · obtain ⟨b, off, rfl, hcell⟩ := HCC.out (by omega)
      have hc := hcell k hlt
      clear hcell
      have hz := HZ.out k hlt
      have HP1 := Lib.hid (HP.out k hlt)
      have HG1 := Lib.hid (HG.out k hlt hpc)
      have hp1 : pre gs (k + 1) = pre gs k + gs.getD k 0 := HP1.out
      by_cases hcz : x % S < pre gs k + gs.getD k 0
      · have HG2 := Lib.hid (HG1.out (by rw [hp1]; exact hcz))
        have HQ2 := Lib.hid (show F1 = x - x % S + pre gs k ∧ B1 = x - x % S + (pre gs k + gs.getD k 0) by have := HQ.out; rw [HG2.out, HP1.out] at this; exact this)
        clear HG1 HG2 hp1 HP1
        generalize gs.getD k 0 = y at *
        generalize pre gs k = p at *
        generalize x % S = C at *
        have hlt2 : x < x - C + p + y := by omega
        go_wp2
        go_ret2
        obtain ⟨q1, q2⟩ := HQ2.out
        exact ⟨by rw [q1, q2]; simp; go_num, HB1.out⟩
      · clear HG1 hp1
        generalize gs.getD k 0 = y at *
        generalize pre gs k = p at *
        generalize x % S = C at *
        have hlt2 : ¬ x < x - C + p + y := by omega
        go_wp2
        go_roundw
        case rel => exact ⟨k + 1, _, by omega, by go_num, rfl, by rw [HP1.out]; go_num, by rw [HP1.out]; omega⟩
        case measure => simp [intOf]; omega
    · exfalso
      obtain rfl : k = n := by omega
      have := HF.out
      omega
end Go.Proofs.YtnmmpiddmckghaaDoor.Se
