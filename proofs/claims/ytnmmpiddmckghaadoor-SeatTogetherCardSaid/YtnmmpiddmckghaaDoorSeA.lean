/-
  Layer 13, the program's own and the document's: across, Right, Count, has. Conditions: the groups can be read.
-/
import Derived.Test.YtnmmpiddmckghaaDoorSeMath
import Derived.Test.YtnmmpiddmckghaaDoorQuBase
namespace Go.Proofs.YtnmmpiddmckghaaDoor.Se
open Go.RowKit Go.Proofs.YtnmmpiddmckghaaDoor.Qu Go.Proofs.YtnmmpiddmckghaaDoor.Fld
set_option linter.unusedVariables false

theorem ret_int {k : IntKind} {a b : Int} (h : a = b) : Ending.returned (.int k a) = .returned (.int k b) := by rw [h]
theorem ret_bool {a b : Bool} (h : a = b) : Ending.returned (.bool a) = .returned (.bool b) := by rw [h]
/-- a layout as a value, and its cells -/
def layV (r : Int) (A : Option Addr) (n c : Nat) : Value := .agg #[.int .i64 r, .slice A n c]
def layO (r : Int) (A : Option Addr) (n c : Nat) : Obj := .cells #[.int .i64 r, .slice A n c] 24
theorem layO_blk (w : World) (r : Int) (A : Option Addr) (n c : Nat) : Blk (w.alloc (layO r A n c)) w.heap.size #[.int .i64 r, .slice A n c] 24 := Blk.new w _ _
theorem sz_take {gs : List Int} (h : szOk gs = true) (k : Nat) : szOk (gs.take k) = true := by
  unfold szOk at h ⊢
  rw [List.all_eq_true] at h ⊢
  intro x hx
  exact h x (List.mem_of_mem_take hx)
theorem sz_cut {gs : List Int} {k : Nat} (hk : k < gs.length) (h : ¬ (1 ≤ gs.getD k 0 ∧ gs.getD k 0 ≤ 10)) : szOk gs = false := by
  cases hs : szOk gs with
  | false => rfl
  | true => exact absurd (sz_at hs k hk) h
theorem sz_succ {gs : List Int} {k : Nat} (hk : k < gs.length) (h : szOk (gs.take k) = true) (hx : 1 ≤ gs.getD k 0 ∧ gs.getD k 0 ≤ 10) : szOk (gs.take (k + 1)) = true := by
  rw [take_succ gs k hk]
  unfold szOk at h ⊢
  rw [List.all_append, h]
  simp only [List.all_cons, List.all_nil, Bool.and_true, Bool.true_and, Bool.and_eq_true, decide_eq_true_eq]
  exact hx

set_option maxRecDepth 100000 in
set_option maxHeartbeats 1600000 in
theorem across_any (r : Int) (A : Option Addr) (n c : Nat) (gs : List Int) (w : World) (hr : RdI w A n gs) (hs : szOk gs = true) (hl : n ≤ 4) :
    Calls Tryd.prog 28 #[layV r A n c] w fun e w' => e = .returned (.int .i64 gs.sum) ∧ Below w.heap.size w w' := by
  have hb := alloc_below w (layO r A n c)
  have HB := Lib.hid hb
  have HK := Lib.hid (layO_blk w r A n c)
  obtain ⟨hgl, hm, hc⟩ := RdI.below hr hb
  unfold layO at *
  have HL := Lib.hid hgl
  have HC := Lib.hid hc
  have HP := Lib.hid (fun k (h : k < n) => pre_succ gs k (by rw [hgl]; exact h))
  have HD := Lib.hid (fun k (h : k ≤ n) => pre_bd hs k (by rw [hgl]; exact h))
  have HZ := Lib.hid (fun k (h : k < n) => sz_at hs k (by rw [hgl]; exact h))
  have HF := Lib.hid (show pre gs n = gs.sum by rw [← hgl]; exact pre_all gs)
  unfold layV
  clear hb hr hgl hc hs
  have c1 := HK.out.cell 1 _ rfl
  go_enter Tryd.func28, Tryd.ntmps28
  go_wp2
  go_loop [3, 9] (fun s i => ∃ k : Nat, k ≤ n ∧ i = .int .i64 k ∧ s = .int .i64 (pre gs k)) (fun _ i => n - (intOf i).toNat)
  case atStart => exact ⟨0, Nat.zero_le _, rfl, rfl⟩
  case round =>
    obtain ⟨k, hk, rfl, rfl⟩ := hrel
    by_cases hlt : k < n
    · obtain ⟨b, off, rfl, hcell⟩ := HC.out (by omega)
      have hc := hcell k hlt
      clear hcell
      have HP1 := Lib.hid (HP.out k hlt)
      have hz := HZ.out k hlt
      have hd := HD.out k hk
      generalize gs.getD k 0 = y at *
      generalize pre gs k = p at *
      go_wp2
      go_roundw
      case rel => exact ⟨k + 1, by omega, by go_num, by rw [HP1.out]⟩
      case measure => simp [intOf]; omega
    · obtain rfl : k = n := by omega
      go_wp2
      go_ret
      exact ⟨by rw [HF.out]; rfl, HB.out⟩
set_option maxRecDepth 100000 in
set_option maxHeartbeats 1600000 in
theorem right_any (r : Int) (A : Option Addr) (n c : Nat) (gs : List Int) (w : World) (hr : RdI w A n gs) :
    Calls Tryd.prog 14 #[layV r A n c] w fun e w' => e = .returned (.bool (layOk r gs)) ∧ Below w.heap.size w w' := by
  have hb := alloc_below w (layO r A n c)
  have HB := Lib.hid hb
  have HK := Lib.hid (layO_blk w r A n c)
  have hr' := RdI.below hr hb
  have HAC := Lib.hid (fun hs hl => across_any r A n c gs (w.alloc (layO r A n c)) hr' hs hl)
  obtain ⟨hgl, hm, hc⟩ := hr'
  unfold maxLen at hm
  unfold layO at *
  have HL := Lib.hid hgl
  have HC := Lib.hid hc
  have HCUT := Lib.hid (fun k (h : k < n) => sz_cut (gs := gs) (k := k) (by rw [hgl]; exact h))
  have HSU := Lib.hid (fun k (h : k < n) => sz_succ (gs := gs) (k := k) (by rw [hgl]; exact h))
  obtain ⟨L, hL⟩ : ∃ L, layOk r gs = L := ⟨_, rfl⟩
  have HLO := Lib.hid (show layOk r gs = (decide (1 ≤ r) && decide (r ≤ 60) && decide (1 ≤ n) && decide (n ≤ 4) && szOk gs && decide (gs.sum ≤ 10)) by unfold layOk; rw [hgl])
  rw [hL] at HLO ⊢
  unfold layV at *
  clear hb hr hgl hc hL
  have c0 := HK.out.cell 0 _ rfl
  have c1 := HK.out.cell 1 _ rfl
  by_cases h1 : r < 1
  · have HF := Lib.hid (show L = false by rw [HLO.out]; simp; omega)
    go_enter Tryd.func14, Tryd.ntmps14
    go_wp2
    go_ret
    exact ⟨by rw [HF.out]; rfl, HB.out⟩
  by_cases h2 : 60 < r
  · have HF := Lib.hid (show L = false by rw [HLO.out]; simp; omega)
    go_enter Tryd.func14, Tryd.ntmps14
    go_wp2
    go_ret
    exact ⟨by rw [HF.out]; rfl, HB.out⟩
  by_cases h3 : n < 1
  · have HF := Lib.hid (show L = false by rw [HLO.out]; simp; omega)
    go_enter Tryd.func14, Tryd.ntmps14
    go_wp2
    go_ret
    exact ⟨by rw [HF.out]; rfl, HB.out⟩
  by_cases h4 : 4 < n
  · have HF := Lib.hid (show L = false by rw [HLO.out]; simp; omega)
    go_enter Tryd.func14, Tryd.ntmps14
    go_wp2
    go_ret
    exact ⟨by rw [HF.out]; rfl, HB.out⟩
  have HLP := Lib.hid (show L = (szOk gs && decide (gs.sum ≤ 10)) by rw [HLO.out, decide_eq_true (show 1 ≤ r by omega), decide_eq_true (show r ≤ 60 by omega), decide_eq_true (show 1 ≤ n by omega), decide_eq_true (show n ≤ 4 by omega)]; rfl)
  clear HLO
  go_enter Tryd.func14, Tryd.ntmps14
  go_wp2
  go_loop [26] (fun i => ∃ k : Nat, k ≤ n ∧ i = .int .i64 k ∧ szOk (gs.take k) = true) (fun i => n - (intOf i).toNat)
  case atStart => exact ⟨0, Nat.zero_le _, rfl, rfl⟩
  case round =>
    obtain ⟨k, hk, rfl, hall⟩ := hrel
    have HA := Lib.hid hall
    clear hall
    by_cases hlt : k < n
    · obtain ⟨b, off, rfl, hcell⟩ := HC.out (by omega)
      have hc := hcell k hlt
      clear hcell
      have HC1 := Lib.hid (HCUT.out k hlt)
      have HS1 := Lib.hid (HSU.out k hlt)
      generalize gs.getD k 0 = y at *
      by_cases h5 : y < 1
      · have HF := Lib.hid (show L = false by rw [HLP.out, HC1.out (by omega)]; rfl)
        go_wp2
        go_ret
        exact ⟨by rw [HF.out]; rfl, HB.out⟩
      by_cases h6 : 10 < y
      · have HF := Lib.hid (show L = false by rw [HLP.out, HC1.out (by omega)]; rfl)
        go_wp2
        go_ret
        exact ⟨by rw [HF.out]; rfl, HB.out⟩
      have HS2 := Lib.hid (HS1.out HA.out ⟨by omega, by omega⟩)
      go_wp2
      go_roundw
      case rel => exact ⟨k + 1, by omega, by go_num, HS2.out⟩
      case measure => simp [intOf]; omega
    · obtain rfl : k = n := by omega
      have HZ := Lib.hid (show szOk gs = true by have := HA.out; rwa [← HL.out, List.take_length] at this)
      have HA2 := Lib.hid (HAC.out HZ.out (by omega))
      have HF := Lib.hid (show L = decide (gs.sum ≤ 10) by rw [HLP.out, HZ.out]; rfl)
      generalize gs.sum = s at *
      go_wp2_with fail
      refine HA2.out.mono ?_
      rintro e w1 ⟨rfl, hb1⟩
      have HB1 := Lib.hid (HB.out.trans (hb1.mono HB.out.size))
      clear hb1
      go_wp2
      go_ret
      exact ⟨by rw [HF.out]; rfl, HB1.out⟩
end Go.Proofs.YtnmmpiddmckghaaDoor.Se
