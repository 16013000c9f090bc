/-
  Layer 7: hard states, read: readNumber, decodeHard. Conditions: the bytes can be read.
-/
import Derived.Test.YtejphnbhcabchaaKeepBlk
import Derived.Test.YtejphnbhcabchaaKeepMath
namespace Go.Proofs.Ytejphnbhcabchaa.Kp
open Go.RowKit Go.Proofs.Ytejphnbhcabchaa.Fld
set_option linter.unusedVariables false

theorem number_rd (g : Nat) (q : List Int × Bool) (w : World) (most : Nat) (h : Rdr w g q.1 q.2) : Calls Try.prog 41 #[.pointer (some ⟨g, 0, none⟩), .int .u64 (most : Int)] w (Got g w (.int .u64 ((rdN q most).1 : Int)) (rdN q most).2.1 (rdN q most).2.2) := by
  obtain ⟨zs, bad⟩ := q
  unfold rdN
  cases bad with
  | true => exact num_bad g zs w true h _ (.inl rfl)
  | false =>
    simp only [Bool.false_eq_true, if_false]
    cases hc : cutNum zs with
    | none => exact num_bad g zs w false h _ (.inr (.inl hc))
    | some vr =>
      obtain ⟨v, r⟩ := vr
      simp only
      by_cases hb : v ≤ most
      · rw [if_pos hb]
        exact num_ok g zs w h v r hc _ (by omega)
      · rw [if_neg hb]
        exact num_bad g zs w false h _ (.inr (.inr ⟨v, r, hc, by omega⟩))
theorem rdN_most (q : List Int × Bool) (most : Nat) : (rdN q most).1 ≤ most := by
  unfold rdN
  split
  · simp
  · split
    · split
      · assumption
      · simp
    · simp
set_option maxRecDepth 100000 in
theorem readNumber_any (g : Nat) (q : List Int × Bool) (w : World) (most : Nat) (hm : most ≤ 9223372036854775807) (h : Rdr w g q.1 q.2) : Calls Try.prog 27 #[.pointer (some ⟨g, 0, none⟩), .int .u64 (most : Int)] w (Got g w (.int .i64 ((rdN q most).1 : Int)) (rdN q most).2.1 (rdN q most).2.2) := by
  have HR := Lib.hid (number_rd g q w most h)
  have hv := rdN_most q most
  clear h
  obtain ⟨v, hv2⟩ : ∃ v, (rdN q most).1 = v := ⟨_, rfl⟩
  rw [hv2] at HR hv ⊢
  have hv : v ≤ 9223372036854775807 := by omega
  go_enter Try.func27, Try.ntmps27
  go_wp2_with (go_at_call 41; refine HR.out.mono ?_; rintro e w' ⟨rfl, hc, hr⟩; have HC := Lib.hid hc; have HRR := Lib.hid hr; clear hc hr)
  go_ret
  exact ⟨rfl, HC.out, HRR.out⟩
def HardIs (w : World) (r : (Int × Int) × Int) (e : Ending) (w' : World) : Prop := e = .returned (.tuple #[.agg #[.int .i64 r.1.1, .int .i64 r.1.2], .int .i64 r.2]) ∧ Below w.heap.size w w'
theorem decHard_eq (zs : List Int) : decHard zs = if wholeB (rdN (rdN (zs, false) 1099511627776).2 15).2.1 (rdN (rdN (zs, false) 1099511627776).2 15).2.2 then ((((rdN (zs, false) 1099511627776).1 : Int), ((rdN (rdN (zs, false) 1099511627776).2 15).1 : Int)), 0) else ((0, 0), 6) := by
  unfold decHard wholeB
  simp only
  cases (rdN (rdN (zs, false) 1099511627776).2 15).2.2 <;> simp
set_option maxRecDepth 100000 in
set_option maxHeartbeats 1600000 in
theorem decodeHard_any (A : Option Addr) (n cap : Nat) (zs : List Int) (w : World) (hr : Rd w A n zs) (hA : A = none → cap = 0) (hn : n ≤ 140737488355328) : Calls Try.prog 19 #[.slice A n cap] w (HardIs w (decHard zs)) := by
  have HB0 := Lib.hid (alloc_below' w (.cells #[.int .i64 0, .int .i64 0] 46))
  have HN := Lib.hid (new_any A n cap zs _ (hr.below HB0.out) hA hn)
  have HF := Lib.hid (decHard_eq zs)
  clear hr hA
  have HK0 := Lib.hid (Blk.new w #[.int .i64 0, .int .i64 0] 46)
  go_enter Try.func19, Try.ntmps19
  go_wp2_with fail
  generalize w.alloc (.cells #[.int .i64 0, .int .i64 0] 46) = w1 at *
  refine HN.out.mono ?_
  rintro e w2 ⟨g, rfl, hg, hrd, hb2⟩
  have HBL := Lib.hid (HB0.out.trans (hb2.mono HB0.out.size))
  have T0 := Lib.hid (show Twos g w (w2.alloc (.cells #[.int .i64 0, .int .i64 0] 46)) (zs, false) w.heap.size w2.heap.size #[.int .i64 0, .int .i64 0] #[.int .i64 0, .int .i64 0] 46 46 from
    ⟨Rdr.past hrd _, (HK0.out.below hb2).past _, Blk.new w2 _ _, (Chg.below HBL.out).alloc _, Nat.le_refl _, HBL.out.size, by have := HK0.out.lt; have := hb2.size; omega, by have := HK0.out.lt; omega, by have := hrd.lt; omega⟩)
  have HG := Lib.hid (show w.heap.size ≤ g by have := HB0.out.size; omega)
  clear hg hrd hb2 HN HBL HK0 HB0
  have q1 := readNumber_any g (zs, false) (w2.alloc (.cells #[.int .i64 0, .int .i64 0] 46)) 1099511627776 (by omega) T0.out.rd
  have HQ1 := Lib.hid q1
  clear q1
  go_wp2_with fail
  generalize w2.alloc (.cells #[.int .i64 0, .int .i64 0] 46) = w3 at *
  generalize w2.heap.size = C at *
  refine HQ1.out.mono ?_
  generalize rdN (zs, false) 1099511627776 = a1 at *
  obtain ⟨v1, q1⟩ := a1
  rintro e w4 ⟨rfl, hc, hr⟩
  have T1 := Lib.hid (T0.out.call hc hr)
  clear hc hr HQ1
  have c0 := T1.out.own.cell 0 _ rfl
  have f0 := T1.out.own.free 0
  go_wp2_with fail
  have T1b := Lib.hid (T1.out.store 0 (by simp) (by intro c h; cases h) (.int .i64 (v1 : Int)))
  generalize w4.setCell ⟨C, 0, none⟩ (.int .i64 (v1 : Int)) = w5 at *
  refine (readNumber_any g q1 w5 15 (by omega) T1b.out.rd).mono ?_
  try simp only at HF
  generalize rdN q1 15 = a2 at *
  obtain ⟨v2, q2⟩ := a2
  rintro e w6 ⟨rfl, hc, hr⟩
  have T2 := Lib.hid (T1b.out.call hc hr)
  clear hc hr c0 f0
  have c0 := T2.out.own.cell 1 _ rfl
  have f0 := T2.out.own.free 1
  go_wp2_with fail
  have T2b := Lib.hid (T2.out.store 1 (by simp) (by intro c h; cases h) (.int .i64 (v2 : Int)))
  generalize w6.setCell ⟨C, 1, none⟩ (.int .i64 (v2 : Int)) = w7 at *
  refine (whole_any g q2.1 q2.2 w7 T2b.out.rd).mono ?_
  rintro e w8 ⟨rfl, rfl⟩
  clear c0 f0
  try simp only at HF
  have d0 := T2b.out.own.cell 0 _ rfl
  have d1 := T2b.out.own.cell 1 _ rfl
  have r0 := T2b.out.res.cell 0 _ rfl
  have r1 := T2b.out.res.cell 1 _ rfl
  have g0 := T2b.out.res.free 0
  have g1 := T2b.out.res.free 1
  cases hwb : wholeB q2.1 q2.2 with
  | false =>
    rw [hwb] at HF
    have S0 := Lib.hid (T2b.out.storeR 0 (by simp) (by intro c h; cases h) (.int .i64 0))
    have S1 := Lib.hid (S0.out.storeR 1 (by simp) (by intro c h; cases h) (.int .i64 0))
    go_wp2
    refine bodyPost_ret (v := .tuple #[.agg #[.int .i64 0, .int .i64 0], .int .i64 6]) ?_ ?_ ?_
    · exact results_two Try.results19 _ _ w.heap.size 46 #[.int .i64 0, .int .i64 0] (0, 0) _ rfl S1.out.res Try.underlying46 rfl (by kernel_rfl)
    · rfl
    · exact ⟨by rw [HF.out]; rfl, S1.out.below HG.out⟩
  | true =>
    rw [hwb] at HF
    have S0 := Lib.hid (T2b.out.storeR 0 (by simp) (by intro c h; cases h) (.int .i64 (v1 : Int)))
    have S1 := Lib.hid (S0.out.storeR 1 (by simp) (by intro c h; cases h) (.int .i64 (v2 : Int)))
    go_wp2
    refine bodyPost_ret (v := .tuple #[.agg #[.int .i64 (v1 : Int), .int .i64 (v2 : Int)], .int .i64 0]) ?_ ?_ ?_
    · exact results_two Try.results19 _ _ w.heap.size 46 #[.int .i64 (v1 : Int), .int .i64 (v2 : Int)] (0, 0) _ rfl S1.out.res Try.underlying46 rfl (by kernel_rfl)
    · rfl
    · exact ⟨by rw [HF.out]; rfl, S1.out.below HG.out⟩
end Go.Proofs.Ytejphnbhcabchaa.Kp
