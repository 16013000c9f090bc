/-
  Layer 10, the law ElectStays: its walk. Conditions: the lists can be read.
-/
import Derived.Test.YtjajgjpkiofhmaaElAw
import Derived.Test.YtjajgjpkiofhmaaElStp
import Derived.Test.YtjajgjpkiofhmaaElK5
import Derived.Deep.CutRange
import Derived.Deep.CutBlock
namespace Go.Proofs.Ytjajgjpkiofhmaa.El
open Go.RowKit Go.Proofs.Ytjajgjpkiofhmaa.Qu Go.Proofs.Ytjajgjpkiofhmaa.Fld
set_option linter.unusedVariables false

/-- what a step makes of a node, but for Join -/
def stayDo (s : St) (a : Stp) : St := if a.d = 0 then (tick s a.draw a.l0 a.l1).1 else if a.d = 1 then (take s a.b a.l0 a.l1).1 else if a.d = 2 then heard s a.b.frm a.b.term else s
theorem stayDo_stays (s : St) (a : Stp) : Stays s (stayDo s a) := by
  unfold stayDo
  split
  · exact tick_stays _ _ _ _
  split
  · exact take_stays _ _ _ _
  split
  · exact heard_stays _ _ _
  · exact Stays.refl s
theorem stayDo_wait (s : St) (h : 0 ≤ s.wait) (a : Stp) : (stayDo s a).wait ≤ s.wait + 1 := by
  unfold stayDo
  split
  · exact (tick_same s h _ _ _).2.2.2.2
  split
  · have := (take_same s h a.b a.l0 a.l1).2.2.2.2; omega
  split
  · have := (heard_same s h a.b.frm a.b.term).2.2.2.2; omega
  · omega
set_option maxRecDepth 100000 in
set_option maxHeartbeats 4000000 in
theorem stays_walk (id t v : Int) (VA : Option Addr) (vc : Nat) (vs : List Int) (LA : Option Addr) (lc : Nat) (ls : List Int) (pat : Int) (DA : Option Addr) (dn dc : Nat) (ds : List Stp) (w : World) (hv : RdI w VA vs.length vs) (hl : RdI w LA ls.length ls) (hd : RdSt w DA dn ds) :
    Calls Try.prog 4 #[.agg #[.int .i64 id, .int .i64 t, .int .i64 v, .slice VA vs.length vc, .slice LA ls.length lc, .int .i64 pat], .slice DA dn dc] w fun e w' => e = .returned (.bool true) ∧ Below w.heap.size w w' := by
  have hal := alloc_below w (.cells (whoC id t v VA vs.length vc LA ls.length lc pat) 28)
  have hk := Blk.new w (whoC id t v VA vs.length vc LA ls.length lc pat) 28
  have HAL := Lib.hid hal
  have HK := Lib.hid hk
  have HD := Lib.hid (fun W (hW : Below w.heap.size w W) k hk => hd.at13 hW k hk)
  have HDL := Lib.hid hd.1
  have hdm := hd.2.1
  unfold maxLen at hdm
  have HAW := Lib.hid (fun W => awake_any W)
  have HKC := Lib.hid (fun W (hW : Below (w.alloc (.cells (whoC id t v VA vs.length vc LA ls.length lc pat) 28)).heap.size (w.alloc (.cells (whoC id t v VA vs.length vc LA ls.length lc pat) 28)) W) => show W.cell? ⟨w.heap.size, 0, none⟩ = some (.int .i64 id) ∧ W.cell? ⟨w.heap.size, 1, none⟩ = some (.int .i64 t) ∧ W.cell? ⟨w.heap.size, 2, none⟩ = some (.int .i64 v) ∧ W.cell? ⟨w.heap.size, 3, none⟩ = some (.slice VA vs.length vc) ∧ W.cell? ⟨w.heap.size, 4, none⟩ = some (.slice LA ls.length lc) ∧ W.cell? ⟨w.heap.size, 5, none⟩ = some (.int .i64 pat) from
    ⟨(hk.below hW).cell 0 _ rfl, (hk.below hW).cell 1 _ rfl, (hk.below hW).cell 2 _ rfl, (hk.below hW).cell 3 _ rfl, (hk.below hW).cell 4 _ rfl, (hk.below hW).cell 5 _ rfl⟩)
  unfold whoC at HAL HK HKC
  cases hn : newOk id t v vs ls pat with
  | false =>
    have HN := Lib.hid (fun W (hW : Below w.heap.size w W) => new_bad id t v pat VA vc vs LA lc ls W (hv.below hW) (hl.below hW) hn)
    unfold grpV at HN
    clear hal hk hn hv hl hd
    go_enter Try.func4, Try.ntmps4
    go_wp2_with fail
    refine (HAW.out _).mono ?_
    rintro e w1 ⟨rfl, hb1⟩
    have HB1 := Lib.hid (HAL.out.trans (hb1.mono HAL.out.size))
    obtain ⟨k0, k1, k2, k3, k4, k5⟩ := HKC.out w1 hb1
    clear hb1
    go_wp2_with fail
    refine (HN.out _ (by exact HB1.out)).mono ?_
    rintro e w2 ⟨rfl, hb2⟩
    have HB2 := Lib.hid (HB1.out.trans (hb2.mono HB1.out.size))
    clear hb2
    go_wp2
    go_ret
    exact ⟨rfl, HB2.out⟩
  | true =>
    have HN := Lib.hid (fun W (hW : Below w.heap.size w W) => new_ok id t v pat VA vc vs LA lc ls W (hv.below hW) (hl.below hW) hn)
    unfold grpV at HN
    clear hal hk hn hv hl hd
    go_enter Try.func4, Try.ntmps4
    go_wp2_with fail
    refine (HAW.out _).mono ?_
    rintro e w1 ⟨rfl, hb1⟩
    have HB1 := Lib.hid (HAL.out.trans (hb1.mono HAL.out.size))
    have HX1 := Lib.hid hb1
    obtain ⟨k0, k1, k2, k3, k4, k5⟩ := HKC.out w1 hb1
    clear hb1
    go_wp2_with fail
    refine (HN.out _ (by exact HB1.out)).mono ?_
    rintro e w2 ⟨p, rfl, hm⟩
    have HM := Lib.hid hm
    clear hm k0 k1 k2 k3 k4 k5
    go_wp2_with fail
    go_loopw [8] (fun i wr => ∃ (k : Nat) (s : St), k ≤ dn ∧ i = .int .i64 (k : Int) ∧ Made w1 wr p s ∧ s.wait ≤ (k : Int) ∧ (k : Int) ≤ 200) (fun i _ => dn - (intOf i).toNat)
    case atStart => exact ⟨0, _, Nat.zero_le _, rfl, HM.out, Int.le_refl _, by omega⟩
    case round =>
      obtain ⟨k, s, hk, rfl, hM, hws, hk2⟩ := hrel
      have HMk := Lib.hid hM
      have HBk := Lib.hid (HB1.out.trans (hM.bel.mono HB1.out.size))
      clear hM
      by_cases hlt : k < dn
      · by_cases hl1 : k < 200
        · have q1 : decide ((k : Int) < 200) = true := by simp; omega
          have HH1 := Lib.hid (hard_any p s wr HMk.out.im)
          go_wp2_with fail
          have hlk : k < ds.length := by rw [HDL.out]; exact hlt
          refine HH1.out.mono ?_
          rintro e w3 ⟨rfl, hb3⟩
          have HM3 := Lib.hid (HMk.out.to hb3)
          have HB3 := Lib.hid (HB1.out.trans (HM3.out.bel.mono HB1.out.size))
          clear hb3
          obtain ⟨bb, off, rfl, hcell⟩ := HD.out (w3.alloc (.cells #[.int .i64 s.term, .int .i64 s.vote] 23)) (HB3.out.trans ((alloc_below w3 _).mono HB3.out.size)) k hlk
          generalize ds[k] = a at *
          have x0 := hcell 0 (.int .i64 a.d) (by omega) rfl
          rw [Nat.add_zero] at x0
          have x1 := hcell 1 (.int .i64 a.draw) (by omega) rfl
          have x2 := hcell 2 (.int .i64 a.l0) (by omega) rfl
          have x3 := hcell 3 (.int .i64 a.l1) (by omega) rfl
          have x4 := hcell 4 (.int .i64 a.b.kind) (by omega) rfl
          have x5 := hcell 5 (.int .i64 a.b.frm) (by omega) rfl
          have x6 := hcell 6 (.int .i64 a.b.to) (by omega) rfl
          have x7 := hcell 7 (.int .i64 a.b.term) (by omega) rfl
          have x8 := hcell 8 (.int .i64 a.b.idx) (by omega) rfl
          have x9 := hcell 9 (.int .i64 a.b.lt) (by omega) rfl
          have x10 := hcell 10 (.bool a.b.yes) (by omega) rfl
          have x11 := hcell 11 (.slice a.VA a.vs.length a.vc) (by omega) rfl
          have x12 := hcell 12 (.slice a.LA a.ls.length a.lc) (by omega) rfl
          clear hcell
          have hbA := alloc_below w3 (.cells #[.int .i64 s.term, .int .i64 s.vote] 23)
          have hkA := Blk.new w3 #[.int .i64 s.term, .int .i64 s.vote] 23
          have hszA : (w3.alloc (.cells #[.int .i64 s.term, .int .i64 s.vote] 23)).heap.size = w3.heap.size + 1 := by simp
          have hbB := hbA.trans ((alloc_below (w3.alloc (.cells #[.int .i64 s.term, .int .i64 s.vote] 23)) (.cells (stpC a) 42)).mono hbA.size)
          have hkB := Blk.new (w3.alloc (.cells #[.int .i64 s.term, .int .i64 s.vote] 23)) (stpC a) 42
          rw [hszA] at hkB
          have HKA := Lib.hid (hkA.past (.cells (stpC a) 42))
          have HKB := Lib.hid hkB
          have HMB := Lib.hid (HM3.out.to hbB)
          have HNA := Lib.hid (HM3.out.im.new w3.heap.size (Nat.le_refl _))
          have HNB := Lib.hid (HM3.out.im.new (w3.heap.size + 1) (by omega))
          have HST := Lib.hid (stayDo_stays s a)
          have HSW := Lib.hid (stayDo_wait s HM3.out.im.ok.w0 a)
          unfold stpC at HKA HKB HMB
          clear hbA hkA hszA hbB hkB
          go_upto_block 2 with fail
          clear x0 x1 x2 x3 x4 x5 x6 x7 x8 x9 x10 x11 x12
          generalize ((w3.alloc (.cells #[.int .i64 s.term, .int .i64 s.vote] 23)).alloc (.cells #[.int .i64 a.d, .int .i64 a.draw, .int .i64 a.l0, .int .i64 a.l1, .int .i64 a.b.kind, .int .i64 a.b.frm, .int .i64 a.b.to, .int .i64 a.b.term, .int .i64 a.b.idx, .int .i64 a.b.lt, .bool a.b.yes, .slice a.VA a.vs.length a.vc, .slice a.LA a.ls.length a.lc] 42)) = wb at *
          generalize hX : w3.heap.size = X at *
          have HXW := Lib.hid hX
          clear hX
          have y0 := HKB.out.cell 0 (.int .i64 a.d) rfl
          have y1 := HKB.out.cell 1 (.int .i64 a.draw) rfl
          have y2 := HKB.out.cell 2 (.int .i64 a.l0) rfl
          have y3 := HKB.out.cell 3 (.int .i64 a.l1) rfl
          have y4 := HKB.out.cell 4 (.int .i64 a.b.kind) rfl
          have y5 := HKB.out.cell 5 (.int .i64 a.b.frm) rfl
          have y6 := HKB.out.cell 6 (.int .i64 a.b.to) rfl
          have y7 := HKB.out.cell 7 (.int .i64 a.b.term) rfl
          have y8 := HKB.out.cell 8 (.int .i64 a.b.idx) rfl
          have y9 := HKB.out.cell 9 (.int .i64 a.b.lt) rfl
          have y10 := HKB.out.cell 10 (.bool a.b.yes) rfl
          have y11 := HKB.out.cell 11 (.slice a.VA a.vs.length a.vc) rfl
          have y12 := HKB.out.cell 12 (.slice a.LA a.ls.length a.lc) rfl
          go_cut [] from 58 to 91 (fun wx => Did wb wx p (stayDo s a))
          case first =>
            by_cases d0 : a.d = 0
            · have q2 : (a.d == 0) = true := by simp [d0]
              have HE := Lib.hid (show stayDo s a = (tick s a.draw a.l0 a.l1).1 by unfold stayDo; rw [if_pos d0])
              have HT := Lib.hid (tick_any p s a.draw a.l0 a.l1 wb HMB.out.im (by omega))
              clear d0
              go_wp2_with fail
              refine HT.out.mono ?_
              rintro e w4 ⟨v4, rfl, hA⟩
              have HA := Lib.hid hA.did
              clear hA
              rw [← HE.out] at HA
              go_wp2_with fail
              go_meet
              exact HA.out
            have q2 : (a.d == 0) = false := by simpa using d0
            by_cases d1 : a.d = 1
            · have q3 : (a.d == 1) = true := by simp [d1]
              have HE := Lib.hid (show stayDo s a = (take s a.b a.l0 a.l1).1 by unfold stayDo; rw [if_neg d0, if_pos d1])
              have HT := Lib.hid (take_any p s a.b a.l0 a.l1 wb HMB.out.im)
              unfold Bal.val at HT
              clear d0 d1
              go_wp2_with fail
              refine HT.out.mono ?_
              rintro e w4 ⟨v4, rfl, hA⟩
              have HA := Lib.hid hA.did
              clear hA
              rw [← HE.out] at HA
              go_wp2_with fail
              go_meet
              exact HA.out
            have q3 : (a.d == 1) = false := by simpa using d1
            by_cases d2 : a.d = 2
            · have q4 : (a.d == 2) = true := by simp [d2]
              have HE := Lib.hid (show stayDo s a = heard s a.b.frm a.b.term by unfold stayDo; rw [if_neg d0, if_neg d1, if_pos d2])
              have HT := Lib.hid (heard_any p s a.b.frm a.b.term wb HMB.out.im)
              clear d0 d1 d2
              go_wp2_with fail
              refine HT.out.mono ?_
              rintro e w4 ⟨rfl, hA⟩
              have HA := Lib.hid hA
              clear hA
              rw [← HE.out] at HA
              go_wp2_with fail
              go_meet
              exact HA.out
            · have q4 : (a.d == 2) = false := by simpa using d2
              have HE := Lib.hid (show stayDo s a = s by unfold stayDo; rw [if_neg d0, if_neg d1, if_neg d2])
              have HA := Lib.hid (Did.same HMB.out.im (Below.refl _ _))
              clear d0 d1 d2
              rw [show Did wb wb p s = Did wb wb p (stayDo s a) by rw [HE.out]] at HA
              go_wp2_with fail
              go_meet
              exact HA.out
          case rest =>
            have HD4 := Lib.hid hcut
            clear hcut y0 y1 y2 y3 y4 y5 y6 y7 y8 y9 y10 y11 y12
            obtain ⟨w4, rfl⟩ : ∃ w4, w4 = wc := ⟨_, rfl⟩
            have HM4 := Lib.hid (HMB.out.then HD4.out)
            have hkA := blk_fr HKA.out HD4.out.fr HNA.out
            have HKA4 := Lib.hid hkA
            have HH2 := Lib.hid (hard_any p (stayDo s a) w4 HD4.out.im)
            clear hkA
            go_wp2_with fail
            refine HH2.out.mono ?_
            rintro e w5 ⟨rfl, hb5⟩
            have HM5 := Lib.hid (HM4.out.to hb5)
            have hkA := (HKA4.out.below hb5).past (.cells #[.int .i64 (stayDo s a).term, .int .i64 (stayDo s a).vote] 23)
            have a0 := hkA.cell 0 (.int .i64 s.term) rfl
            have a1 := hkA.cell 1 (.int .i64 s.vote) rfl
            have hst := HST.out
            have hsw := HSW.out
            have HM6 := Lib.hid (HM5.out.to (alloc_below w5 (.cells #[.int .i64 (stayDo s a).term, .int .i64 (stayDo s a).vote] 23)))
            have hkN := Blk.new w5 #[.int .i64 (stayDo s a).term, .int .i64 (stayDo s a).vote] 23
            have n0 := hkN.cell 0 (.int .i64 (stayDo s a).term) rfl
            have n1 := hkN.cell 1 (.int .i64 (stayDo s a).vote) rfl
            clear hb5 hkA hkN
            obtain ⟨hst1, hst2⟩ := hst
            generalize stayDo s a = s' at *
            have e1 : decide (s'.term < s.term) = false := by simp; omega
            by_cases ht : s'.term = s.term
            · have q5 : (s'.term == s.term) = true := by simp [ht]
              by_cases hv0 : s.vote = 0
              · have q6 : (s.vote != 0) = false := by simp [hv0]
                clear ht hv0 hst2
                go_wp2_with fail
                go_roundw
                case rel => exact ⟨k + 1, s', by omega, by go_num, HM6.out, by omega, by omega⟩
                case measure => simp [intOf]; omega
              · have q6 : (s.vote != 0) = true := by simpa using hv0
                have q7 : (s'.vote != s.vote) = false := by have := hst2 ht hv0; simp [this]
                clear ht hv0 hst2
                go_wp2_with fail
                go_roundw
                case rel => exact ⟨k + 1, s', by omega, by go_num, HM6.out, by omega, by omega⟩
                case measure => simp [intOf]; omega
            · have q5 : (s'.term == s.term) = false := by simpa using ht
              clear ht hst2
              go_wp2_with fail
              go_roundw
              case rel => exact ⟨k + 1, s', by omega, by go_num, HM6.out, by omega, by omega⟩
              case measure => simp [intOf]; omega
        · have q1 : decide ((k : Int) < 200) = false := by simp; omega
          go_wp2
          go_ret
          exact ⟨rfl, HBk.out⟩
      · obtain rfl : k = dn := by omega
        go_wp2
        go_ret
        exact ⟨rfl, HBk.out⟩
end Go.Proofs.Ytjajgjpkiofhmaa.El
