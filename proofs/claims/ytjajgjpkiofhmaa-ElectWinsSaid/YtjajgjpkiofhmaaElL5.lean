/-
  Layer 10, the law ElectOnce: its walk. Conditions: the lists can be read.
-/
import Derived.Test.YtjajgjpkiofhmaaElV8
namespace Go.Proofs.Ytjajgjpkiofhmaa.El
open Go.RowKit Go.Proofs.Ytjajgjpkiofhmaa.Qu Go.Proofs.Ytjajgjpkiofhmaa.Fld
set_option linter.unusedVariables false

theorem play_leads (d : Wd) (e : Ev) : (play d e).leads = d.leads := by
  unfold play come doN
  repeat' split
  all_goals rfl
set_option maxRecDepth 100000 in
set_option maxHeartbeats 6400000 in
theorem once_walk (many : Int) (LA : Option Addr) (ln lc : Nat) (ls : List (Int × Int)) (EA : Option Addr) (en ec : Nat) (es : List Ev) (w : World) (hl : RdP w LA ln ls) (he : RdEv w EA en es) :
    Calls Try.prog 5 #[.int .i64 many, .slice LA ln lc, .slice EA en ec] w fun e w' => e = .returned (.bool true) ∧ Below w.heap.size w w' := by
  have HAW := Lib.hid (awake_any w)
  have HL := Lib.hid hl
  have HE := Lib.hid (fun W (hW : Below w.heap.size w W) k hk => he.at4 hW k hk)
  have hem := he.2.1
  unfold maxLen at hem
  clear hl he
  by_cases m1 : many < 1
  · have q1 : decide (many < 1) = true := decide_eq_true m1
    clear m1
    go_enter Try.func5, Try.ntmps5
    go_wp2_with fail
    refine (HAW.out).mono ?_
    rintro e w1 ⟨rfl, hb1⟩
    have HB1 := Lib.hid hb1
    clear hb1
    go_wp2
    go_ret
    exact ⟨rfl, HB1.out⟩
  by_cases m7 : 7 < many
  · have q1 : decide (many < 1) = false := decide_eq_false m1
    have q2 : decide (7 < many) = true := decide_eq_true m7
    clear m1 m7
    go_enter Try.func5, Try.ntmps5
    go_wp2_with fail
    refine (HAW.out).mono ?_
    rintro e w1 ⟨rfl, hb1⟩
    have HB1 := Lib.hid hb1
    clear hb1
    go_wp2
    go_ret
    exact ⟨rfl, HB1.out⟩
  have q1 : decide (many < 1) = false := decide_eq_false m1
  have q2 : decide (7 < many) = false := decide_eq_false m7
  obtain ⟨m, rfl⟩ : ∃ m : Nat, many = (m : Int) := ⟨many.toNat, by omega⟩
  have hm1 : 1 ≤ m := by omega
  have hm7 : m ≤ 7 := by omega
  clear m1 m7
  go_enter Try.func5, Try.ntmps5
  go_wp2_with fail
  refine (HAW.out).mono ?_
  rintro e w1 ⟨rfl, hb1⟩
  have HB1 := Lib.hid hb1
  have HWD := Lib.hid (world_any m hm1 (by omega) LA ln lc ls w1 (HL.out.below hb1))
  clear hb1
  go_wp2_with fail
  refine (HWD.out).mono ?_
  rintro e w2 ⟨u, rfl, hW⟩
  have HW := Lib.hid hW
  clear hW
  generalize hg : u.g = g at *
  go_wp2_with fail
  go_loopw [9] (fun i wr => ∃ (k : Nat) (u1 : Wl) (d : Wd) (V : Vt), k ≤ en ∧ k ≤ 600 ∧ i = .int .i64 (k : Int) ∧ u1.g = g ∧ Wm w1 (ids m) wr u1 d ∧ WInv m V k d ∧ d.leads.length ≤ 15 * k) (fun i _ => en - (intOf i).toNat)
  case atStart => exact ⟨0, u, El.w0 m ls, _, Nat.zero_le _, by omega, rfl, hg, HW.out, w0_inv m ls hm1 (by omega), Nat.zero_le _⟩
  case round =>
    obtain ⟨k, u1, d, V, hk, hk6, rfl, hug, hW, hI, hld⟩ := hrel
    have HW := Lib.hid hW
    have HI := Lib.hid hI
    have HBF := Lib.hid (show Below w.heap.size w wr from HB1.out.trans (hW.bel.mono HB1.out.size))
    by_cases hkt : k < en
    · have q3 : decide ((k : Int) < (en : Int)) = true := by simp; omega
      by_cases hk0 : k < 600
      · have q4 : decide ((k : Int) < 600) = true := by simp; omega
        obtain ⟨SA, sc, hsv, _⟩ := hW.balc
        have c4 := hW.cells.2.2.2.2.1
        rw [hsv, hug] at c4
        clear hsv
        by_cases hs : d.sent.length < 20000
        · have q5 : decide ((d.sent.length : Int) < 20000) = true := by simp; omega
          obtain ⟨b, off, rfl, x0, x1, x2, x3⟩ := HE.out wr HBF.out k hkt
          generalize es.getD k ev0 = ev at *
          have hnl := hI.nl
          have hpl := play_any w1 u1 d ev m k wr hW hnl hm1 (by omega) (by rw [hI.ll, hI.nl]) (by omega) (by omega) hI.nok (by omega)
          rw [hug] at hpl
          have HPL := Lib.hid hpl
          obtain ⟨V', hI'⟩ := play_inv hI hm1 (by omega) ev
          have HI' := Lib.hid hI'
          have HLD := Lib.hid hld
          have HM := Lib.hid (show (play d ev).ns.length = m from hI'.nl)
          clear hW hI hI' hpl hnl hld
          have k0 : (0 : Int) ≤ (k : Int) := by omega
          have k1 : (k : Int) < (en : Int) := by omega
          go_wp2_with fail
          refine HPL.out.mono ?_
          rintro e w3 ⟨rfl, u3, hg3, hW3⟩
          have hn3 := note_any w1 (ids m) u3 (play d ev) w3 hW3 (by rw [HM.out]; omega) (by rw [play_leads]; have := HLD.out; omega) (fun i hi hr x hx ht => note_fine HI'.out i (by rw [HM.out] at hi; exact hi) hr x hx ht)
          rw [hg3, HM.out] at hn3
          have HN3 := Lib.hid hn3
          have HG3 := Lib.hid hg3
          clear hn3 hW3 hg3
          go_wp2_with fail
          refine HN3.out.mono ?_
          rintro e w4 ⟨rfl, u4, hg4, hW4⟩
          have HW4 := Lib.hid hW4
          have HG4 := Lib.hid hg4
          clear hW4 hg4
          go_wp2_with fail
          go_roundw
          case rel =>
            refine ⟨k + 1, u4, _, V', by omega, by omega, by go_num, ?_, HW4.out, noted HI'.out, ?_⟩
            · rw [HG4.out]
            · show (noteTo (play d ev) m).length ≤ _
              have h5 := noteTo_len (play d ev) m
              rw [play_leads] at h5
              have := HLD.out
              omega
          case measure => simp [intOf]; omega
        · have q5 : decide ((d.sent.length : Int) < 20000) = false := by simp; omega
          clear hW hI hs
          go_wp2
          go_ret
          exact ⟨rfl, HBF.out⟩
      · have q4 : decide ((k : Int) < 600) = false := by simp; omega
        clear hW hI hk0
        go_wp2
        go_ret
        exact ⟨rfl, HBF.out⟩
    · have q3 : decide ((k : Int) < (en : Int)) = false := by simp; omega
      clear hW hI
      go_wp2
      go_ret
      exact ⟨rfl, HBF.out⟩
end Go.Proofs.Ytjajgjpkiofhmaa.El
