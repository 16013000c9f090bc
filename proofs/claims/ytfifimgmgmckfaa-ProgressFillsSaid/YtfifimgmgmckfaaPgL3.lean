/-
  Layer 11, the law ProgressFills: its walk. Conditions: the numbers can be read.
-/
import Derived.Test.YtfifimgmgmckfaaPgE
namespace Go.Proofs.Ytfifimgmgmckfaa.Pg
open Go.RowKit Go.Proofs.Ytfifimgmgmckfaa.Qu Go.Proofs.Ytfifimgmgmckfaa.Fld
set_option linter.unusedVariables false

def stF (win last : Int) : St := ⟨1, last, last + 1, win, false, [], 0⟩
theorem stF_0 (next win : Int) (h : okNew next win = true) : ackS (newS next win) (next - 1) = stF win (next - 1) := by
  have := (okNew_iff _ _).1 h
  unfold ackS
  rw [if_pos ((okI_iff _).2 (by omega)), if_pos (show (newS next win).state = 0 from rfl)]
  unfold enterS ackM newS stF
  simp only [St.mk.injEq, true_and, and_true]
  omega
theorem stF_ok (win last : Int) (h1 : 1 ≤ win) (h2 : win ≤ 64) (h3 : 0 ≤ last) (h4 : last < 1099511627776) : (stF win last).Ok := by
  constructor <;> simp [stF] <;> omega
theorem stF_sent (win last d : Int) (h1 : 1 ≤ win) (h3 : 0 ≤ last) (h4 : last ≤ 1099511625776) (hd : 1 ≤ d) (hd2 : d ≤ 1000) : sentE (stF win last) (last + d) = 0 ∧ ackB (sentS (stF win last) (last + d)) (last + d) = true ∧ ackS (sentS (stF win last) (last + d)) (last + d) = stF win (last + d) := by
  have hm : may (stF win last) = true := by
    unfold may
    rw [if_neg (by simp [stF]), if_pos (by simp [stF])]
    exact decide_eq_true (by show ((0 : Nat) : Int) < win; omega)
  have ho : sentOk (stF win last) (last + d) = true := by
    unfold sentOk
    rw [hm, show decide ((stF win last).nx - 1 ≤ last + d) = true from decide_eq_true (by show last + 1 - 1 ≤ last + d; omega), (okI_iff _).2 (by omega)]
    rfl
  have hs : sentS (stF win last) (last + d) = ⟨1, last, last + d + 1, win, false, [last + d], 0⟩ := by
    unfold sentS
    rw [if_pos ho, if_neg (by simp [stF]), if_pos (by simp [stF]; omega)]
    rfl
  refine ⟨by unfold sentE; rw [if_pos ho], ?_, ?_⟩
  · rw [hs]
    simp [ackB, okI]
    omega
  · rw [hs]
    unfold ackS
    rw [if_pos ((okI_iff _).2 (by omega)), if_neg (by simp), if_pos rfl]
    have hu : upTo [last + d] (last + d) = 1 := by
      rw [upTo_cons, if_pos (by omega)]
      rfl
    simp only [hu]
    unfold ackM stF
    simp only [St.mk.injEq, true_and, and_true, List.drop_succ_cons, List.drop_zero]
    omega
set_option maxRecDepth 100000 in
set_option maxHeartbeats 6400000 in
theorem fills_walk (next win : Int) (DA : Option Addr) (dn dc : Nat) (ds : List Int) (w : World) (hds : RdI w DA dn ds) : Calls Try.prog 5 #[.int .i64 next, .int .i64 win, .slice DA dn dc] w fun e w' => e = .returned (.bool true) ∧ Below w.heap.size w w' := by
  cases hn : okNew next win with
  | false =>
    have HN := Lib.hid (new_bad w next win hn)
    clear hn hds
    go_enter Try.func5, Try.ntmps5
    go_wp2_with fail
    refine HN.out.mono ?_
    rintro e w1 ⟨rfl, rfl⟩
    go_wp2
    go_ret
    exact ⟨rfl, Below.refl _ _⟩
  | true =>
    have HN := Lib.hid (new_ok w next win hn)
    have hw := (okNew_iff _ _).1 hn
    have v1 := hw.1.1
    have v2 := hw.1.2
    have w1 := hw.2.1
    have w2 := hw.2.2
    have HS0 := Lib.hid (stF_0 next win hn)
    have HOK := Lib.hid (fun last => stF_ok win last w1 w2)
    have HSE := Lib.hid (fun last d => stF_sent win last d w1)
    have HNO := Lib.hid (newS_ok hn)
    have HDS := Lib.hid hds
    have hdm := hds.2.1
    unfold maxLen at hdm
    clear hn hw hds
    go_enter Try.func5, Try.ntmps5
    go_wp2_with fail
    refine HN.out.mono ?_
    rintro e x1 ⟨rfl, hI, hb⟩
    have HI1 := Lib.hid hI
    have HB1 := Lib.hid hb
    clear hI hb
    go_wp2_with fail
    refine (acked_any w.heap.size w.heap.size (newS next win) none 0 x1 (next - 1) HI1.out HNO.out).mono ?_
    rintro e x2 ⟨rfl, hd⟩
    have HD2 := Lib.hid hd
    clear hd
    rw [HS0.out] at HD2
    go_wp2_with fail
    go_loopw [9, 10, 11, 12] (fun l i f r wr => ∃ (k : Nat) (last : Int), k ≤ dn ∧ k ≤ 100 ∧ i = .int .i64 (k : Int) ∧ l = .int .i64 last ∧ 0 ≤ last ∧ last < 1099511627776 ∧ Did w.heap.size w wr w.heap.size (stF win last)) (fun _ i _ _ _ => 101 - (intOf i).toNat)
    case atStart => exact ⟨0, next - 1, by omega, by omega, rfl, rfl, by omega, by omega, HD2.out.im, HB1.out.trans HD2.out.bel, Nat.le_refl _⟩
    case round =>
      obtain ⟨k, last, hk, hk2, rfl, rfl, l0, l1, hD⟩ := hrel
      have HD := Lib.hid hD
      obtain ⟨⟨A, cap, hI⟩, hbl, _⟩ := hD
      have HI := Lib.hid hI
      have hrd := HDS.out.below hbl
      clear hbl
      by_cases hlt : k < dn
      · by_cases hlt2 : k < 100
        · obtain ⟨b, off, rfl, hc⟩ := hrd.2.2 (by omega)
          have hc1 := hc k hlt
          clear hc hrd
          generalize ds.getD k 0 = d at *
          by_cases h1 : d < 1
          · have d1 : decide (d < 1) = true := decide_eq_true h1
            clear hI
            go_wp2_with fail
            go_roundw
            case rel => exact ⟨k + 1, last, by omega, by omega, by go_num, rfl, l0, l1, HD.out⟩
            case measure => simp [intOf]; omega
          have d1 : decide (d < 1) = false := decide_eq_false h1
          by_cases h2 : 1000 < d
          · have d2 : decide (1000 < d) = true := decide_eq_true h2
            clear hI
            go_wp2_with fail
            go_roundw
            case rel => exact ⟨k + 1, last, by omega, by omega, by go_num, rfl, l0, l1, HD.out⟩
            case measure => simp [intOf]; omega
          have d2 : decide (1000 < d) = false := decide_eq_false h2
          by_cases h3 : 1099511625776 < last
          · have d3 : decide (1099511625776 < last) = true := decide_eq_true h3
            clear hI
            go_wp2_with fail
            go_roundw
            case rel => exact ⟨k + 1, last, by omega, by omega, by go_num, rfl, l0, l1, HD.out⟩
            case measure => simp [intOf]; omega
          have d3 : decide (1099511625776 < last) = false := decide_eq_false h3
          have HE := Lib.hid (HSE.out last d l0 (by omega) (by omega) (by omega))
          have HSS := Lib.hid (sent_any w.heap.size w.heap.size (stF win last) A cap wr (last + d) hI (HOK.out last l0 l1))
          rw [HE.out.1] at HSS
          have HSOK := Lib.hid (sentS_ok (HOK.out last l0 l1) (last + d))
          have HB2 := Lib.hid (show 0 ≤ last + d ∧ last + d < 1099511627776 by omega)
          have j1 : last + d + 1 ≤ 1099511627776 := by omega
          clear hI
          go_wp2_with fail
          refine HSS.out.mono ?_
          rintro e x3 ⟨rfl, hd3⟩
          have HD3 := Lib.hid hd3
          obtain ⟨⟨A3, cap3, hI3⟩, _, _⟩ := hd3
          have HA := Lib.hid (acked_any w.heap.size w.heap.size _ A3 cap3 x3 (last + d) hI3 HSOK.out)
          rw [HE.out.2.1, HE.out.2.2] at HA
          clear hI3
          go_wp2_with fail
          refine HA.out.mono ?_
          rintro e x4 ⟨rfl, hd4⟩
          have HD4 := Lib.hid hd4
          obtain ⟨⟨A4, cap4, hI4⟩, _, _⟩ := hd4
          have HMA := Lib.hid (match_any w.heap.size w.heap.size _ A4 cap4 x4 hI4)
          have HNX := Lib.hid (next_any w.heap.size w.heap.size _ A4 cap4 x4 hI4)
          have HFL := Lib.hid (flying_any w.heap.size w.heap.size _ A4 cap4 x4 hI4)
          have HMY := Lib.hid (may_any w.heap.size w.heap.size _ A4 cap4 x4 hI4)
          rw [show may (stF win (last + d)) = true by unfold may; rw [if_neg (by simp [stF]), if_pos (by simp [stF])]; exact decide_eq_true (by show ((0 : Nat) : Int) < win; omega)] at HMY
          unfold stF at HMA HNX HFL
          simp only [List.length_nil] at HFL
          clear hI4
          go_wp2_with (first | (go_at_call 9; refine HMA.out.mono ?_; rintro e w' ⟨rfl, rfl⟩) | (go_at_call 16; refine HNX.out.mono ?_; rintro e w' ⟨rfl, rfl⟩) | (go_at_call 17; refine HFL.out.mono ?_; rintro e w' ⟨rfl, rfl⟩) | (go_at_call 18; refine HMY.out.mono ?_; rintro e x5 ⟨rfl, hb5⟩; have HD5 := Lib.hid (HD4.out.to hb5); clear hb5))
          go_roundw
          case rel => exact ⟨k + 1, last + d, by omega, by omega, by go_num, rfl, HB2.out.1, HB2.out.2, (HD.out.then HD3.out).then HD5.out⟩
          case measure => simp [intOf]; omega
        · have HST := Lib.hid (state_any w.heap.size w.heap.size _ A cap wr hI)
          have HMA := Lib.hid (match_any w.heap.size w.heap.size _ A cap wr hI)
          unfold stF at HST HMA
          clear hrd hI
          go_wp2_with (first | (go_at_call 9; refine HMA.out.mono ?_; rintro e w' ⟨rfl, rfl⟩) | (go_at_call 19; refine HST.out.mono ?_; rintro e w' ⟨rfl, rfl⟩))
          go_ret
          exact ⟨by simp, HD.out.bel⟩
      · have HST := Lib.hid (state_any w.heap.size w.heap.size _ A cap wr hI)
        have HMA := Lib.hid (match_any w.heap.size w.heap.size _ A cap wr hI)
        unfold stF at HST HMA
        clear hrd hI
        go_wp2_with (first | (go_at_call 9; refine HMA.out.mono ?_; rintro e w' ⟨rfl, rfl⟩) | (go_at_call 19; refine HST.out.mono ?_; rintro e w' ⟨rfl, rfl⟩))
        go_ret
        exact ⟨by simp, HD.out.bel⟩
end Go.Proofs.Ytfifimgmgmckfaa.Pg
