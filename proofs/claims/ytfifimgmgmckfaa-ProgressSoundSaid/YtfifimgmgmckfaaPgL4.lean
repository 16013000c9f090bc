/-
  Layer 11, the law ProgressSound: its walk. Conditions: the steps can be read.
-/
import Derived.Test.YtfifimgmgmckfaaPgE
import Derived.Test.YtfifimgmgmckfaaPgOpn
namespace Go.Proofs.Ytfifimgmgmckfaa.Pg
open Go.RowKit Go.Proofs.Ytfifimgmgmckfaa.Qu Go.Proofs.Ytfifimgmgmckfaa.Fld
set_option linter.unusedVariables false

def stepS (s : St) (a : Stp) : St := if a.d = 0 then sentS s a.n else if a.d = 1 then ackS s a.n else if a.d = 2 then refS s a.n a.hint else if a.d = 3 then beatS s else if a.d = 4 then insS s a.n else if a.d = 5 then ovS s a.ok else s
theorem stepS_ok {s : St} (h : s.Ok) (a : Stp) : (stepS s a).Ok := by
  unfold stepS
  split
  · exact sentS_ok h _
  split
  · exact ackS_ok h _
  split
  · exact refS_ok h _ _
  split
  · exact beatS_ok h
  split
  · exact insS_ok h _
  split
  · exact ovS_ok h _
  · exact h
theorem stepS_mt (s : St) (a : Stp) : s.mt ≤ (stepS s a).mt ∧ (stepS s a).win = s.win := by
  unfold stepS
  split
  · have := sentS_mt s a.n; omega
  split
  · exact ackS_mt s a.n
  split
  · have := refS_mt s a.n a.hint; omega
  split
  · have := beatS_mt s; omega
  split
  · have := insS_mt s a.n; omega
  split
  · have := ovS_mt s a.ok; omega
  · omega
set_option maxRecDepth 100000 in
set_option maxHeartbeats 6400000 in
theorem sound_walk (next win : Int) (DA : Option Addr) (dn dc : Nat) (ds : List Stp) (w : World) (hds : RdSt w DA dn ds) : Calls Try.prog 4 #[.int .i64 next, .int .i64 win, .slice DA dn dc] w fun e w' => e = .returned (.bool true) ∧ Below w.heap.size w w' := by
  cases hn : okNew next win with
  | false =>
    have HN := Lib.hid (new_bad w next win hn)
    clear hn hds
    go_enter Try.func4, Try.ntmps4
    go_wp2_with fail
    refine HN.out.mono ?_
    rintro e w1 ⟨rfl, rfl⟩
    go_wp2
    go_ret
    exact ⟨rfl, Below.refl _ _⟩
  | true =>
    have HN := Lib.hid (new_ok w next win hn)
    have HNO := Lib.hid (newS_ok hn)
    have HDS := Lib.hid (fun W (hW : Below w.heap.size w W) k hk => hds.at4 hW k hk)
    have HDL := Lib.hid hds.1
    have hdm := hds.2.1
    unfold maxLen at hdm
    clear hn hds
    go_enter Try.func4, Try.ntmps4
    go_wp2_with fail
    refine HN.out.mono ?_
    rintro e x1 ⟨rfl, hI, hb⟩
    have HI1 := Lib.hid hI
    have HB1 := Lib.hid hb
    clear hI hb
    go_wp2_with fail
    go_loopw [9, 10, 11] (fun i p m wr => ∃ (k : Nat) (s : St), k ≤ dn ∧ k ≤ 300 ∧ i = .int .i64 (k : Int) ∧ s.Ok ∧ s.win = win ∧ Did w.heap.size w wr w.heap.size s) (fun i _ _ _ => 301 - (intOf i).toNat)
    case atStart => exact ⟨0, newS next win, by omega, by omega, rfl, HNO.out, rfl, ⟨_, _, HI1.out⟩, HB1.out, Nat.le_refl _⟩
    case round =>
      obtain ⟨k, s, hk, hk2, rfl, hok, hwin, hD⟩ := hrel
      have HD := Lib.hid hD
      have HOK := Lib.hid hok
      have HWI := Lib.hid hwin
      obtain ⟨⟨A, cap, hI⟩, hbl, _⟩ := hD
      have HI := Lib.hid hI
      have HBL := Lib.hid hbl
      clear hbl hok hwin
      by_cases hlt : k < dn
      · by_cases hlt2 : k < 300
        · obtain ⟨b, off, rfl, hc⟩ := HDS.out wr HBL.out k (by rw [HDL.out]; exact hlt)
          have q0 := hc 0 _ (by omega) rfl
          have q1 := hc 1 _ (by omega) rfl
          have q2 := hc 2 _ (by omega) rfl
          have q3 := hc 3 _ (by omega) rfl
          rw [Nat.add_zero] at q0
          clear hc
          generalize ds[k]'(by rw [HDL.out]; exact hlt) = a at *
          have hal := alloc_below wr (.cells #[.int .i64 a.d, .int .i64 a.n, .int .i64 a.hint, .bool a.ok] 32)
          have HAL := Lib.hid hal
          have hk1 := Blk.new wr #[.int .i64 a.d, .int .i64 a.n, .int .i64 a.hint, .bool a.ok] 32
          have HIa := Lib.hid (hI.below hal)
          have HMA := Lib.hid (match_any w.heap.size w.heap.size s A cap _ (hI.below hal))
          have HDa := Lib.hid (HD.out.to hal)
          have y0 := hk1.cell 0 (.int .i64 a.d) rfl
          have y1 := hk1.cell 1 (.int .i64 a.n) rfl
          have y2 := hk1.cell 2 (.int .i64 a.hint) rfl
          have y3 := hk1.cell 3 (.bool a.ok) rfl
          clear hI hal hk1
          go_wp2_with fail
          refine HMA.out.mono ?_
          rintro e w' ⟨rfl, rfl⟩
          generalize hwa : wr.alloc (.cells #[.int .i64 a.d, .int .i64 a.n, .int .i64 a.hint, .bool a.ok] 32) = wa at *
          clear hwa
          go_upto_block 2 with fail
          go_cut [] from 44 to 79 (fun wx => Did w.heap.size w wx w.heap.size (stepS s a))
          case first =>
            by_cases d0 : a.d = 0
            · have x0 : (a.d == 0) = true := by simp [d0]
              have HS := Lib.hid (show stepS s a = sentS s a.n by unfold stepS; rw [if_pos d0])
              have HC := Lib.hid (sent_any w.heap.size w.heap.size s A cap wa a.n HIa.out HOK.out)
              clear d0
              go_wp2_with (go_at_call 10; refine HC.out.mono ?_; rintro e w5 ⟨rfl, hd⟩; have HD5 := Lib.hid hd; clear hd)
              go_meet
              rw [HS.out]
              exact HDa.out.then HD5.out
            have x0 : (a.d == 0) = false := by simp [d0]
            by_cases d1 : a.d = 1
            · have x1 : (a.d == 1) = true := by simp [d1]
              have HS := Lib.hid (show stepS s a = ackS s a.n by unfold stepS; rw [if_neg d0, if_pos d1])
              have HC := Lib.hid (acked_any w.heap.size w.heap.size s A cap wa a.n HIa.out HOK.out)
              clear d0 d1
              go_wp2_with (go_at_call 11; refine HC.out.mono ?_; rintro e w5 ⟨rfl, hd⟩; have HD5 := Lib.hid hd; clear hd)
              go_meet
              rw [HS.out]
              exact HDa.out.then HD5.out
            have x1 : (a.d == 1) = false := by simp [d1]
            by_cases d2 : a.d = 2
            · have x2 : (a.d == 2) = true := by simp [d2]
              have HS := Lib.hid (show stepS s a = refS s a.n a.hint by unfold stepS; rw [if_neg d0, if_neg d1, if_pos d2])
              have HC := Lib.hid (refused_any w.heap.size w.heap.size s A cap wa a.n a.hint HIa.out HOK.out)
              clear d0 d1 d2
              go_wp2_with (go_at_call 12; refine HC.out.mono ?_; rintro e w5 ⟨rfl, hd⟩; have HD5 := Lib.hid hd; clear hd)
              go_meet
              rw [HS.out]
              exact HDa.out.then HD5.out
            have x2 : (a.d == 2) = false := by simp [d2]
            by_cases d3 : a.d = 3
            · have x3 : (a.d == 3) = true := by simp [d3]
              have HS := Lib.hid (show stepS s a = beatS s by unfold stepS; rw [if_neg d0, if_neg d1, if_neg d2, if_pos d3])
              have HC := Lib.hid (beat_any w.heap.size w.heap.size s A cap wa HIa.out HOK.out)
              clear d0 d1 d2 d3
              go_wp2_with (go_at_call 13; refine HC.out.mono ?_; rintro e w5 ⟨rfl, hd⟩; have HD5 := Lib.hid hd; clear hd)
              go_meet
              rw [HS.out]
              exact HDa.out.then HD5.out
            have x3 : (a.d == 3) = false := by simp [d3]
            by_cases d4 : a.d = 4
            · have x4 : (a.d == 4) = true := by simp [d4]
              have HS := Lib.hid (show stepS s a = insS s a.n by unfold stepS; rw [if_neg d0, if_neg d1, if_neg d2, if_neg d3, if_pos d4])
              have HC := Lib.hid (install_any w.heap.size w.heap.size s A cap wa a.n HIa.out)
              clear d0 d1 d2 d3 d4
              go_wp2_with (go_at_call 14; refine HC.out.mono ?_; rintro e w5 ⟨rfl, hd⟩; have HD5 := Lib.hid hd; clear hd)
              go_meet
              rw [HS.out]
              exact HDa.out.then HD5.out
            have x4 : (a.d == 4) = false := by simp [d4]
            by_cases d5 : a.d = 5
            · have x5 : (a.d == 5) = true := by simp [d5]
              have HS := Lib.hid (show stepS s a = ovS s a.ok by unfold stepS; rw [if_neg d0, if_neg d1, if_neg d2, if_neg d3, if_neg d4, if_pos d5])
              have HC := Lib.hid (over_any w.heap.size w.heap.size s A cap wa a.ok HIa.out HOK.out)
              clear d0 d1 d2 d3 d4 d5
              go_wp2_with (go_at_call 15; refine HC.out.mono ?_; rintro e w5 ⟨rfl, hd⟩; have HD5 := Lib.hid hd; clear hd)
              go_meet
              rw [HS.out]
              exact HDa.out.then HD5.out
            have x5 : (a.d == 5) = false := by simp [d5]
            have HS := Lib.hid (show stepS s a = s by unfold stepS; rw [if_neg d0, if_neg d1, if_neg d2, if_neg d3, if_neg d4, if_neg d5])
            clear d0 d1 d2 d3 d4 d5
            go_wp2_with fail
            go_meet
            rw [HS.out]
            exact HDa.out
          case rest =>
            have HD5 := Lib.hid hcut
            obtain ⟨⟨A5, cap5, hI5⟩, _, _⟩ := hcut
            have hok5 := stepS_ok HOK.out a
            have hmt := stepS_mt s a
            have HOK5 := Lib.hid hok5
            have HWI5 := Lib.hid (show (stepS s a).win = win by rw [hmt.2]; exact HWI.out)
            have m1 := hmt.1
            have m2 := hok5.mn
            have m3 : ((stepS s a).fl.length : Int) ≤ win := by have := hok5.fl; rw [hmt.2, HWI.out] at this; exact this
            have HM5 := Lib.hid (match_any w.heap.size w.heap.size _ A5 cap5 wc hI5)
            have HN5 := Lib.hid (next_any w.heap.size w.heap.size _ A5 cap5 wc hI5)
            have HF5 := Lib.hid (flying_any w.heap.size w.heap.size _ A5 cap5 wc hI5)
            clear hI5 hok5 hmt
            generalize (stepS s a).fl.length = fn at *
            generalize hs5 : stepS s a = s5 at *
            clear hs5
            go_wp2_with (first | (go_at_call 9; refine HM5.out.mono ?_; rintro e w' ⟨rfl, rfl⟩) | (go_at_call 16; refine HN5.out.mono ?_; rintro e w' ⟨rfl, rfl⟩) | (go_at_call 17; refine HF5.out.mono ?_; rintro e w' ⟨rfl, rfl⟩))
            go_roundw
            case rel => exact ⟨k + 1, s5, by omega, by omega, by go_num, HOK5.out, HWI5.out, HD5.out⟩
            case measure => simp [intOf]; omega
        · have HNX := Lib.hid (next_any w.heap.size w.heap.size s A cap wr hI)
          have n1 : 1 ≤ s.nx := by have := HOK.out.m0; have := HOK.out.mn; omega
          clear hI
          go_wp2_with (go_at_call 16; refine HNX.out.mono ?_; rintro e w' ⟨rfl, rfl⟩)
          go_ret
          exact ⟨by simp, HD.out.bel⟩
      · have HNX := Lib.hid (next_any w.heap.size w.heap.size s A cap wr hI)
        have n1 : 1 ≤ s.nx := by have := HOK.out.m0; have := HOK.out.mn; omega
        clear hI
        go_wp2_with (go_at_call 16; refine HNX.out.mono ?_; rintro e w' ⟨rfl, rfl⟩)
        go_ret
        exact ⟨by simp, HD.out.bel⟩
end Go.Proofs.Ytfifimgmgmckfaa.Pg
