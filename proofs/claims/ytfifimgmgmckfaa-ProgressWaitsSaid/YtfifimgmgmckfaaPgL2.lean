/-
  Layer 11, the law ProgressWaits: its walk. No condition.
-/
import Derived.Test.YtfifimgmgmckfaaPgE
namespace Go.Proofs.Ytfifimgmgmckfaa.Pg
open Go.RowKit Go.Proofs.Ytfifimgmgmckfaa.Qu Go.Proofs.Ytfifimgmgmckfaa.Fld
set_option linter.unusedVariables false

def rg : Int → Nat → List Int
  | _, 0 => []
  | a, n + 1 => a :: rg (a + 1) n
theorem rg_snoc : ∀ (n : Nat) (a : Int), rg a n ++ [a + n] = rg a (n + 1)
  | 0, a => by simp [rg]
  | n + 1, a => by
    have := rg_snoc n (a + 1)
    rw [show rg a (n + 1 + 1) = a :: rg (a + 1) (n + 1) from rfl, ← this]
    show a :: (rg (a + 1) n ++ _) = _
    rw [show a + ((n + 1 : Nat) : Int) = a + 1 + n by omega]
theorem rg_len : ∀ (n : Nat) (a : Int), (rg a n).length = n
  | 0, a => rfl
  | n + 1, a => by show (rg (a + 1) n).length + 1 = n + 1; rw [rg_len n]
theorem rg_up (n : Nat) : upTo (rg 1 (n + 1)) 1 = 1 := by
  show upTo (1 :: rg 2 n) 1 = 1
  rw [upTo_cons, if_pos (by omega)]
  cases n with
  | zero => rfl
  | succ n => show upTo (2 :: rg 3 n) 1 + 1 = 1; rw [upTo_cons, if_neg (by omega)]
def stW (win : Int) (k : Nat) : St := ⟨1, 0, (k : Int) + 1, win, false, rg 1 k, 0⟩
theorem stW_0 (win : Int) (h : okNew 1 win = true) : ackS (newS 1 win) 0 = stW win 0 := by
  unfold ackS
  rw [if_pos (by decide), if_pos (show (newS 1 win).state = 0 from rfl)]
  rfl
theorem stW_ok (win : Int) (h1 : 1 ≤ win) (h2 : win ≤ 64) (k : Nat) (hk : (k : Int) ≤ win) : (stW win k).Ok := by
  have := rg_len k 1
  constructor <;> simp [stW] <;> omega
theorem stW_sent (win : Int) (h2 : win ≤ 64) (k : Nat) (hk : (k : Int) < win) : sentE (stW win k) ((k : Int) + 1) = 0 ∧ sentS (stW win k) ((k : Int) + 1) = stW win (k + 1) := by
  have hl := rg_len k 1
  have ho : sentOk (stW win k) ((k : Int) + 1) = true := by
    simp [sentOk, may, stW, okI, hl]
    omega
  refine ⟨by unfold sentE; rw [if_pos ho], ?_⟩
  unfold sentS
  rw [if_pos ho, if_neg (by simp [stW]), if_pos (by simp [stW])]
  unfold stW
  simp only
  rw [← rg_snoc k 1]
  simp only [St.mk.injEq, true_and, and_true, List.append_cancel_left_eq, List.cons.injEq]
  omega
theorem stW_full (win : Int) (k : Nat) (hk : (k : Int) = win) : sentE (stW win k) (win + 1) = 7 ∧ sentS (stW win k) (win + 1) = stW win k := by
  have hl := rg_len k 1
  have ho : sentOk (stW win k) (win + 1) = false := by
    simp [sentOk, may, stW, okI, hl]
    omega
  unfold sentE sentS
  rw [ho]
  exact ⟨rfl, rfl⟩
theorem stW_end (win : Int) (h1 : 1 ≤ win) (h2 : win ≤ 64) (k : Nat) (hk : (k : Int) = win) :
    sentE (ackS (stW win k) 1) (win + 1) = 0 ∧ ((sentS (ackS (stW win k) 1) (win + 1)).fl.length : Int) = win := by
  have hl := rg_len k 1
  obtain ⟨m, rfl⟩ : ∃ m, k = m + 1 := ⟨k - 1, by omega⟩
  have ha : ackS (stW win (m + 1)) 1 = { ackM (stW win (m + 1)) 1 with fl := (rg 1 (m + 1)).drop 1 } := by
    unfold ackS
    rw [if_pos (by decide), if_neg (by simp [stW]), if_pos (show (stW win (m + 1)).state = 1 from rfl)]
    show { ackM (stW win (m + 1)) 1 with fl := (rg 1 (m + 1)).drop (upTo (rg 1 (m + 1)) 1) } = _
    rw [rg_up]
  have hd : ((rg 1 (m + 1)).drop 1).length = m := by rw [List.length_drop, hl]; omega
  have hx : (ackM (stW win (m + 1)) 1).nx = ((m : Int) + 1) + 1 := by
    simp only [ackM, stW]
    omega
  have ho : sentOk (ackS (stW win (m + 1)) 1) (win + 1) = true := by
    rw [ha]
    simp only [sentOk, may, okI, Bool.and_eq_true, decide_eq_true_eq]
    refine ⟨⟨?_, by rw [hx]; omega⟩, by omega, by omega⟩
    rw [if_neg (by simp [ackM, stW]), if_pos (by simp [ackM, stW])]
    rw [decide_eq_true_eq, hd]
    show (m : Int) < win
    omega
  refine ⟨by unfold sentE; rw [if_pos ho], ?_⟩
  unfold sentS
  rw [if_pos ho, ha]
  rw [if_neg (by simp [ackM, stW]), if_pos (by show (ackM (stW win (m + 1)) 1).nx ≤ _; rw [hx]; omega)]
  simp only [List.length_append, hd, List.length_cons, List.length_nil]
  omega
set_option maxRecDepth 100000 in
set_option maxHeartbeats 3200000 in
theorem waits_walk (win : Int) (w : World) : Calls Try.prog 6 #[.int .i64 win] w fun e w' => e = .returned (.bool true) ∧ Below w.heap.size w w' := by
  cases hn : okNew 1 win with
  | false =>
    have HN := Lib.hid (new_bad w 1 win hn)
    clear hn
    go_enter Try.func6, Try.ntmps6
    go_wp2_with fail
    refine HN.out.mono ?_
    rintro e w1 ⟨rfl, rfl⟩
    go_wp2
    go_ret
    exact ⟨rfl, Below.refl _ _⟩
  | true =>
    have HN := Lib.hid (new_ok w 1 win hn)
    have hw := (okNew_iff _ _).1 hn
    have w1 := hw.2.1
    have w2 := hw.2.2
    have HS0 := Lib.hid (stW_0 win hn)
    have HOK := Lib.hid (stW_ok win w1 w2)
    have HSE := Lib.hid (stW_sent win w2)
    have HFU := Lib.hid (stW_full win)
    have HEN := Lib.hid (stW_end win w1 w2)
    have HNO := Lib.hid (newS_ok hn)
    clear hn hw
    go_enter Try.func6, Try.ntmps6
    go_wp2_with fail
    refine HN.out.mono ?_
    rintro e x1 ⟨rfl, hI, hb⟩
    have HI1 := Lib.hid hI
    have HB1 := Lib.hid hb
    clear hI hb
    go_wp2_with fail
    refine (acked_any w.heap.size w.heap.size (newS 1 win) none 0 x1 0 HI1.out HNO.out).mono ?_
    rintro e x2 ⟨rfl, hd⟩
    have HD2 := Lib.hid hd
    clear hd
    rw [HS0.out] at HD2
    go_wp2_with fail
    go_loopw [5, 6] (fun i f wr => ∃ k : Nat, (k : Int) ≤ win ∧ i = .int .i64 ((k : Int) + 1) ∧ Did w.heap.size w wr w.heap.size (stW win k)) (fun i _ _ => 66 - (intOf i).toNat)
    case atStart => exact ⟨0, by omega, rfl, HD2.out.im, HB1.out.trans HD2.out.bel, Nat.le_refl _⟩
    case round =>
      obtain ⟨k, hk, rfl, hD⟩ := hrel
      have HD := Lib.hid hD
      obtain ⟨⟨A, cap, hI⟩, _, _⟩ := hD
      have HI := Lib.hid hI
      by_cases hlt : (k : Int) < win
      · have HSS := Lib.hid (sent_any w.heap.size w.heap.size (stW win k) A cap wr ((k : Int) + 1) hI (HOK.out k hk))
        rw [(HSE.out k hlt).1, (HSE.out k hlt).2] at HSS
        have HLN := Lib.hid (rg_len (k + 1) 1)
        clear hI
        go_wp2_with fail
        refine HSS.out.mono ?_
        rintro e x3 ⟨rfl, hd3⟩
        have HD3 := Lib.hid hd3
        obtain ⟨⟨A3, cap3, hI3⟩, _, _⟩ := hd3
        have HF := Lib.hid (flying_any w.heap.size w.heap.size (stW win (k + 1)) A3 cap3 x3 hI3)
        rw [show ((stW win (k + 1)).fl.length : Int) = (k : Int) + 1 by show ((rg 1 (k + 1)).length : Int) = _; rw [HLN.out]; omega] at HF
        clear hI3
        go_wp2_with (go_at_call 17; refine HF.out.mono ?_; rintro e w' ⟨rfl, rfl⟩)
        go_roundw
        case rel => exact ⟨k + 1, by omega, by go_num, HD.out.then HD3.out⟩
        case measure => simp [intOf]; omega
      · have hkw : (k : Int) = win := by omega
        have HKW := Lib.hid hkw
        have HSS := Lib.hid (sent_any w.heap.size w.heap.size (stW win k) A cap wr (win + 1) hI (HOK.out k hk))
        rw [(HFU.out k hkw).1, (HFU.out k hkw).2] at HSS
        clear hI hkw
        go_wp2_with fail
        refine HSS.out.mono ?_
        rintro e x3 ⟨rfl, hd3⟩
        have HD3 := Lib.hid hd3
        obtain ⟨⟨A3, cap3, hI3⟩, _, _⟩ := hd3
        have HA := Lib.hid (acked_any w.heap.size w.heap.size (stW win k) A3 cap3 x3 1 hI3 (HOK.out k hk))
        clear hI3
        go_wp2_with fail
        refine HA.out.mono ?_
        rintro e x4 ⟨rfl, hd4⟩
        have HD4 := Lib.hid hd4
        obtain ⟨⟨A4, cap4, hI4⟩, _, _⟩ := hd4
        have HZ := Lib.hid (sent_any w.heap.size w.heap.size (ackS (stW win k) 1) A4 cap4 x4 (win + 1) hI4 (ackS_ok (HOK.out k hk) 1))
        have HEND := Lib.hid (HEN.out k HKW.out)
        rw [HEND.out.1] at HZ
        clear hI4
        go_wp2_with fail
        refine HZ.out.mono ?_
        rintro e x5 ⟨rfl, hd5⟩
        have HD5 := Lib.hid hd5
        obtain ⟨⟨A5, cap5, hI5⟩, _, _⟩ := hd5
        have HF := Lib.hid (flying_any w.heap.size w.heap.size _ A5 cap5 x5 hI5)
        rw [HEND.out.2] at HF
        clear hI5
        go_wp2_with (go_at_call 17; refine HF.out.mono ?_; rintro e w' ⟨rfl, rfl⟩)
        go_ret
        exact ⟨by simp, (((HD.out.then HD3.out).then HD4.out).then HD5.out).bel⟩
end Go.Proofs.Ytfifimgmgmckfaa.Pg
