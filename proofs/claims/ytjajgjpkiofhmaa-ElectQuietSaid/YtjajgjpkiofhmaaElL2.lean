/-
  Layer 10, the law ElectQuiet: its walk. Conditions: the lists can be read.
-/
import Derived.Test.YtjajgjpkiofhmaaElAw
import Derived.Test.YtjajgjpkiofhmaaElStp
import Derived.Deep.CutRange
namespace Go.Proofs.Ytjajgjpkiofhmaa.El
open Go.RowKit Go.Proofs.Ytjajgjpkiofhmaa.Qu Go.Proofs.Ytjajgjpkiofhmaa.Fld
set_option linter.unusedVariables false

/-- a follower that has just heard of its leader -/
def quiS (id t v : Int) (vs ls : List Int) (pat frm : Int) (k : Int) : St := ⟨id, pat, t, v, vs, ls, 0, frm, k, pat, noneA⟩
theorem qui_hears (id t v : Int) (vs ls : List Int) (pat frm : Int) (k ld : Int) (h : okHard t v = true) : hears ⟨id, pat, t, v, vs, ls, 0, ld, k, pat, noneA⟩ frm t = (okNode frm && decide (frm ≠ id)) := by
  have := ((okHard_iff _ _).1 h).1.2
  have hMX : MX = 1099511627776 := rfl
  unfold hears other
  simp only [decide_eq_true (Int.le_refl t), decide_eq_true this]
  simp
theorem qui_heard (id t v : Int) (vs ls : List Int) (pat frm : Int) (k ld : Int) (h : okHard t v = true) (hf : (okNode frm && decide (frm ≠ id)) = true) : heard ⟨id, pat, t, v, vs, ls, 0, ld, k, pat, noneA⟩ frm t = quiS id t v vs ls pat frm 0 := by
  unfold heard
  rw [if_pos (by rw [qui_hears _ _ _ _ _ _ _ _ _ h]; exact hf), if_neg (show ¬ t < t by omega)]
  rfl
theorem qui_tick (id t v : Int) (vs ls : List Int) (pat frm draw : Int) (h : 2 ≤ pat) : tick (quiS id t v vs ls pat frm 0) draw 0 0 = (quiS id t v vs ls pat frm 1, []) := by
  unfold tick
  rw [if_neg (show ¬ (quiS id t v vs ls pat frm 0).role = 3 by show ¬ (0 : Int) = 3; omega), if_pos (show (quiS id t v vs ls pat frm 0).wait + 1 < (quiS id t v vs ls pat frm 0).lim ∨ _ from .inl (show (0 : Int) + 1 < pat by omega))]
  rfl
set_option maxRecDepth 100000 in
set_option maxHeartbeats 3200000 in
theorem quiet_walk (id t v : Int) (VA : Option Addr) (vc : Nat) (vs : List Int) (LA : Option Addr) (lc : Nat) (ls : List Int) (pat frm : Int) (DA : Option Addr) (dn dc : Nat) (ds : List Int) (w : World) (hv : RdI w VA vs.length vs) (hl : RdI w LA ls.length ls) (hd : RdI w DA dn ds) :
    Calls Try.prog 8 #[.agg #[.int .i64 id, .int .i64 t, .int .i64 v, .slice VA vs.length vc, .slice LA ls.length lc, .int .i64 pat], .int .i64 frm, .slice DA dn dc] w fun e w' => e = .returned (.bool true) ∧ Below w.heap.size w w' := by
  have hal := alloc_below w (.cells (whoC id t v VA vs.length vc LA ls.length lc pat) 28)
  have hk := Blk.new w (whoC id t v VA vs.length vc LA ls.length lc pat) 28
  have HAL := Lib.hid hal
  have HK := Lib.hid hk
  have HD := Lib.hid (fun W (hW : Below w.heap.size w W) => hd.below hW)
  have hdm := hd.2.1
  unfold maxLen at hdm
  have HAW := Lib.hid (fun W => awake_any W)
  have HKC := Lib.hid (fun W (hW : Below (w.alloc (.cells (whoC id t v VA vs.length vc LA ls.length lc pat) 28)).heap.size (w.alloc (.cells (whoC id t v VA vs.length vc LA ls.length lc pat) 28)) W) => show W.cell? ⟨w.heap.size, 0, none⟩ = some (.int .i64 id) ∧ W.cell? ⟨w.heap.size, 1, none⟩ = some (.int .i64 t) ∧ W.cell? ⟨w.heap.size, 2, none⟩ = some (.int .i64 v) ∧ W.cell? ⟨w.heap.size, 3, none⟩ = some (.slice VA vs.length vc) ∧ W.cell? ⟨w.heap.size, 4, none⟩ = some (.slice LA ls.length lc) ∧ W.cell? ⟨w.heap.size, 5, none⟩ = some (.int .i64 pat) from
    ⟨(hk.below hW).cell 0 _ rfl, (hk.below hW).cell 1 _ rfl, (hk.below hW).cell 2 _ rfl, (hk.below hW).cell 3 _ rfl, (hk.below hW).cell 4 _ rfl, (hk.below hW).cell 5 _ rfl⟩)
  unfold whoC at HAL HK HKC
  cases hn : newOk id t v vs ls pat with
  | false =>
    have HN := Lib.hid (fun W (hW : Below w.heap.size w W) => new_bad id t v pat VA vc vs LA lc ls W (hv.below hW) (hl.below hW) hn)
    unfold grpV at HN
    clear hal hk hn hv hl hd
    go_enter Try.func8, Try.ntmps8
    go_wp2_with fail
    refine (HAW.out _).mono ?_
    rintro e w1 ⟨rfl, hb1⟩
    have HB1 := Lib.hid (HAL.out.trans (hb1.mono HAL.out.size))
    obtain ⟨k0, k1, k2, k3, k4, k5⟩ := HKC.out w1 hb1
    clear hb1
    go_wp2_with fail
    refine (HN.out _ (by exact HB1.out)).mono ?_
    rintro e w2 ⟨rfl, hb2⟩
    have HB2 := Lib.hid (HB1.out.trans (hb2.mono HB1.out.size))
    clear hb2
    go_wp2
    go_ret
    exact ⟨rfl, HB2.out⟩
  | true =>
    have HN := Lib.hid (fun W (hW : Below w.heap.size w W) => new_ok id t v pat VA vc vs LA lc ls W (hv.below hW) (hl.below hW) hn)
    unfold grpV at HN
    have hn' := hn
    simp only [newOk, Bool.and_eq_true, decide_eq_true_eq] at hn'
    obtain ⟨_, hh, _, hp1, hp2⟩ := hn'
    have HH := Lib.hid hh
    have HHD := Lib.hid (qui_heard id t v vs ls pat frm)
    have HHS := Lib.hid (qui_hears id t v vs ls pat frm)
    by_cases hp : pat < 2
    · have d1 : decide (pat < 2) = true := decide_eq_true hp
      clear hal hk hn hv hl hd hh hp
      go_enter Try.func8, Try.ntmps8
      go_wp2_with fail
      refine (HAW.out _).mono ?_
      rintro e w1 ⟨rfl, hb1⟩
      have HB1 := Lib.hid (HAL.out.trans (hb1.mono HAL.out.size))
      have HX1 := Lib.hid hb1
      obtain ⟨k0, k1, k2, k3, k4, k5⟩ := HKC.out w1 hb1
      clear hb1
      go_wp2_with fail
      refine (HN.out _ (by exact HB1.out)).mono ?_
      rintro e w2 ⟨p, rfl, hm⟩
      have HM := Lib.hid hm
      have HB2 := Lib.hid (HB1.out.trans (hm.bel.mono HB1.out.size))
      obtain ⟨k0, k1, k2, k3, k4, k5⟩ := HKC.out w2 (HX1.out.trans (hm.bel.mono HX1.out.size))
      clear hm
      go_wp2
      go_ret
      exact ⟨rfl, HB2.out⟩
    have d1 : decide (pat < 2) = false := decide_eq_false hp
    have HTK := Lib.hid (fun draw => qui_tick id t v vs ls pat frm draw (by omega))
    cases hf : (okNode frm && decide (frm ≠ id)) with
    | false =>
      have hfo : frm < 1 ∨ 15 < frm ∨ frm = id := by
        simp only [okNode, Bool.and_eq_false_iff, decide_eq_false_iff_not] at hf
        omega
      have HHR := Lib.hid (fun W p (hI : Im W p (st0 id t v vs ls pat)) => heard_any p (st0 id t v vs ls pat) frm t W hI)
      rw [show hears (st0 id t v vs ls pat) frm t = false from (HHS.out 0 0 HH.out).trans hf] at HHR
      have HFO := Lib.hid hfo
      clear hal hk hn hv hl hd hh hp hf hfo
      go_enter Try.func8, Try.ntmps8
      go_wp2_with fail
      refine (HAW.out _).mono ?_
      rintro e w1 ⟨rfl, hb1⟩
      have HB1 := Lib.hid (HAL.out.trans (hb1.mono HAL.out.size))
      have HX1 := Lib.hid hb1
      obtain ⟨k0, k1, k2, k3, k4, k5⟩ := HKC.out w1 hb1
      clear hb1
      go_wp2_with fail
      refine (HN.out _ (by exact HB1.out)).mono ?_
      rintro e w2 ⟨p, rfl, hm⟩
      have HM := Lib.hid hm
      have HX2 := Lib.hid (HX1.out.trans (hm.bel.mono HX1.out.size))
      obtain ⟨k0, k1, k2, k3, k4, k5⟩ := HKC.out w2 HX2.out
      clear hm
      go_wp2_with fail
      refine (HHR.out _ p HM.out.im).mono ?_
      rintro e w3 ⟨rfl, hd3⟩
      have HM3 := Lib.hid (HM.out.then hd3)
      obtain ⟨k0, k1, k2, k3, k4, k5⟩ := HKC.out w3 (HX1.out.trans (HM3.out.bel.mono HX1.out.size))
      clear hd3
      have hB := HB1.out.trans (HM3.out.bel.mono HB1.out.size)
      have HB := Lib.hid hB
      clear hB
      by_cases f1 : frm < 1
      · have q1 : decide (frm < 1) = true := decide_eq_true f1
        clear f1
        go_wp2
        go_ret
        exact ⟨rfl, HB.out⟩
      · have q1 : decide (frm < 1) = false := decide_eq_false f1
        by_cases f2 : 15 < frm
        · have q2 : decide (15 < frm) = true := decide_eq_true f2
          clear f1 f2
          go_wp2
          go_ret
          exact ⟨rfl, HB.out⟩
        · have q2 : decide (15 < frm) = false := decide_eq_false f2
          have q3 : (frm == id) = true := by have := HFO.out; simp; omega
          clear f1 f2
          go_wp2
          go_ret
          exact ⟨rfl, HB.out⟩
    | true =>
      have HHR := Lib.hid (fun W p (hI : Im W p (st0 id t v vs ls pat)) => heard_any p (st0 id t v vs ls pat) frm t W hI)
      rw [show hears (st0 id t v vs ls pat) frm t = true from (HHS.out 0 0 HH.out).trans hf, show heard (st0 id t v vs ls pat) frm t = quiS id t v vs ls pat frm 0 from HHD.out 0 0 HH.out hf] at HHR
      have HHQ := Lib.hid (fun W p (hI : Im W p (quiS id t v vs ls pat frm 1)) => heard_any p (quiS id t v vs ls pat frm 1) frm t W hI)
      rw [show hears (quiS id t v vs ls pat frm 1) frm t = true from (HHS.out 1 frm HH.out).trans hf, show heard (quiS id t v vs ls pat frm 1) frm t = quiS id t v vs ls pat frm 0 from HHD.out 1 frm HH.out hf] at HHQ
      clear hal hk hn hv hl hd hh hp hf
      go_enter Try.func8, Try.ntmps8
      go_wp2_with fail
      refine (HAW.out _).mono ?_
      rintro e w1 ⟨rfl, hb1⟩
      have HB1 := Lib.hid (HAL.out.trans (hb1.mono HAL.out.size))
      have HX1 := Lib.hid hb1
      obtain ⟨k0, k1, k2, k3, k4, k5⟩ := HKC.out w1 hb1
      clear hb1
      go_wp2_with fail
      refine (HN.out _ (by exact HB1.out)).mono ?_
      rintro e w2 ⟨p, rfl, hm⟩
      have HM := Lib.hid hm
      have HX2 := Lib.hid (HX1.out.trans (hm.bel.mono HX1.out.size))
      obtain ⟨k0, k1, k2, k3, k4, k5⟩ := HKC.out w2 HX2.out
      clear hm
      go_wp2_with fail
      refine (HHR.out _ p HM.out.im).mono ?_
      rintro e w3 ⟨rfl, hd3⟩
      have HM3 := Lib.hid (HM.out.then hd3)
      clear hd3 k0 k1 k2 k3 k4 k5
      go_wp2_with fail
      go_loopw [11, 12] (fun i l wr => ∃ k : Nat, k ≤ dn ∧ i = .int .i64 (k : Int) ∧ Made w1 wr p (quiS id t v vs ls pat frm 0)) (fun i _ _ => dn - (intOf i).toNat)
      case atStart => exact ⟨0, Nat.zero_le _, rfl, HM3.out⟩
      case round =>
        obtain ⟨k, hk, rfl, hM⟩ := hrel
        have HMk := Lib.hid hM
        have HXk := Lib.hid (HX1.out.trans (hM.bel.mono HX1.out.size))
        have HBk := Lib.hid (HB1.out.trans (hM.bel.mono HB1.out.size))
        obtain ⟨k0, k1, k2, k3, k4, k5⟩ := HKC.out wr HXk.out
        clear hM
        by_cases hlt : k < dn
        · by_cases hl1 : k < 100
          · have q1 : decide ((k : Int) < 100) = true := by simp; omega
            obtain ⟨bb, off, rfl, hcell⟩ := (HD.out wr HBk.out).2.2 (by omega)
            have hc := hcell k hlt
            clear hcell
            generalize ds.getD k 0 = draw at *
            have HT1 := Lib.hid (tick_any p (quiS id t v vs ls pat frm 0) draw 0 0 wr HMk.out.im (by show (0 : Int) ≤ _; omega))
            rw [HTK.out draw] at HT1
            go_wp2_with fail
            refine HT1.out.mono ?_
            rintro e w4 ⟨v4, rfl, hA⟩
            obtain ⟨A4, c4, hv4, _⟩ := row_slice hA.out
            simp only [List.length_nil] at hv4
            subst hv4
            have HM4 := Lib.hid (HMk.out.then hA.did)
            obtain ⟨k0, k1, k2, k3, k4, k5⟩ := HKC.out w4 (HX1.out.trans (HM4.out.bel.mono HX1.out.size))
            clear hA
            go_wp2_with fail
            refine (HHQ.out _ p HM4.out.im).mono ?_
            rintro e w5 ⟨rfl, hd5⟩
            have HM5 := Lib.hid (HM4.out.then hd5)
            have HX5 := Lib.hid (HX1.out.trans (HM5.out.bel.mono HX1.out.size))
            obtain ⟨k0, k1, k2, k3, k4, k5⟩ := HKC.out w5 HX5.out
            have HRL := Lib.hid (fun W (hW : Below w5.heap.size w5 W) => role_any p _ W (HM5.out.im.below hW))
            have HHD2 := Lib.hid (fun W (hW : Below w5.heap.size w5 W) => hard_any p _ W (HM5.out.im.below hW))
            have HLD := Lib.hid (fun W (hW : Below w5.heap.size w5 W) => leader_any p _ W (HM5.out.im.below hW))
            rw [show (quiS id t v vs ls pat frm 0).role = 0 from rfl] at HRL
            rw [show (quiS id t v vs ls pat frm 0).term = t from rfl, show (quiS id t v vs ls pat frm 0).vote = v from rfl] at HHD2
            rw [show (quiS id t v vs ls pat frm 0).lead = frm from rfl] at HLD
            clear hd5
            go_wp2_with fail
            go_region_held3 (fun w' => w'.cell? ⟨w.heap.size, 1, none⟩ = some (.int .i64 t) ∧ w'.cell? ⟨w.heap.size, 2, none⟩ = some (.int .i64 v)) (first | exact ⟨by assumption, by assumption⟩ | go_keep) (first
              | (go_at_call 22; refine (HRL.out _ (by exact below_d1 w5)).mono ?_; rintro e w' ⟨rfl, rfl⟩)
              | (go_at_call 21; refine (HHD2.out _ (by exact below_d1 w5)).mono ?_; rintro e w6 ⟨rfl, hb6⟩; have HB6 := Lib.hid ((below_d1 w5).trans hb6); have g1 := (hb6.cell (lt_of_cell (show World.cell? _ _ = some _ from k1))).trans k1; have g2 := (hb6.cell (lt_of_cell (show World.cell? _ _ = some _ from k2))).trans k2; clear hb6)
              | (go_at_call 23; refine (HLD.out _ (by exact HB6.out)).mono ?_; rintro e w' ⟨rfl, rfl⟩))
            all_goals
              go_wp2_with fail
              go_roundw
              case rel => exact ⟨k + 1, by omega, by go_num, HM5.out.to HB6.out⟩
              case measure => simp [intOf]; omega
          · have q1 : decide ((k : Int) < 100) = false := by simp; omega
            go_wp2
            go_ret
            exact ⟨rfl, HBk.out⟩
        · obtain rfl : k = dn := by omega
          go_wp2
          go_ret
          exact ⟨rfl, HBk.out⟩
end Go.Proofs.Ytjajgjpkiofhmaa.El
