/-
  Several texts in one: Layer 10, in the program: validNode, validTerm, validHard, isOther, newer, lead, stepDown, said, outcome. Conditions: as each theorem states. Layer 10, in the program: outcome, begin, record, grant, newer, validHard. Conditions: as each theorem states.
-/
import Derived.Test.YtjadfpcipicckaaGreatJQuBase
import Derived.Test.YtjadfpcipicckaaGreatJQuV
import Derived.Deep.RegionHeld3
import Derived.Deep.RegionWith
import Derived.Deep.RegionLaw
namespace Go.Proofs.YtjadfpcipicckaaGreat.El
open Go.RowKit Go.Proofs.YtjadfpcipicckaaGreat.Qu Go.Proofs.YtjadfpcipicckaaGreat.Fld
set_option linter.unusedVariables false

theorem validNode_any (n : Int) (w : World) : Calls Tryz.prog 38 #[.int .i64 n] w fun e w' => e = .returned (.bool (okNode n)) ∧ w = w' := by
  have he : okNode n = (decide (1 ≤ n) && decide (n ≤ 15)) := rfl
  by_cases h0 : 1 ≤ n
  · by_cases h1 : n ≤ 15
    · rw [he, decide_eq_true h0, decide_eq_true h1]
      clear he
      go_enter Tryz.func38, Tryz.ntmps38
      go_wp2
      go_ret
      exact ⟨rfl, rfl⟩
    · have h2 : decide (n ≤ 15) = false := decide_eq_false h1
      rw [he, decide_eq_true h0, h2]
      clear he
      go_enter Tryz.func38, Tryz.ntmps38
      go_wp2
      go_ret
      exact ⟨rfl, rfl⟩
  · have h2 : decide (1 ≤ n) = false := decide_eq_false h0
    rw [he, h2]
    clear he
    go_enter Tryz.func38, Tryz.ntmps38
    go_wp2
    go_ret
    exact ⟨rfl, rfl⟩
theorem validTerm_any (n : Int) (w : World) : Calls Tryz.prog 79 #[.int .i64 n] w fun e w' => e = .returned (.bool (okTerm n)) ∧ w = w' := by
  have he : okTerm n = (decide (0 ≤ n) && decide (n ≤ 1099511627776)) := rfl
  by_cases h0 : 0 ≤ n
  · by_cases h1 : n ≤ 1099511627776
    · rw [he, decide_eq_true h0, decide_eq_true h1]
      clear he
      go_enter Tryz.func79, Tryz.ntmps79
      go_wp2
      go_ret
      exact ⟨rfl, rfl⟩
    · have h2 : decide (n ≤ 1099511627776) = false := decide_eq_false h1
      rw [he, decide_eq_true h0, h2]
      clear he
      go_enter Tryz.func79, Tryz.ntmps79
      go_wp2
      go_ret
      exact ⟨rfl, rfl⟩
  · have h2 : decide (0 ≤ n) = false := decide_eq_false h0
    rw [he, h2]
    clear he
    go_enter Tryz.func79, Tryz.ntmps79
    go_wp2
    go_ret
    exact ⟨rfl, rfl⟩
theorem lead_any (p : Pl) (s : St) (w : World) (h : Im w p s) : Calls Tryz.prog 128 #[.pointer (some ⟨p.g, 0, none⟩)] w fun e w' => e = .returned (.tuple #[]) ∧ Did w w' p (leadS s) := by
  have h1 := h.set 6 (.int .i64 3) (s' := { s with role := 3 }) rfl (by omega) rfl rfl rfl (role_ok h.ok (by omega))
  have h2 := h1.im.set 7 (.int .i64 s.id) (s' := leadS s) rfl (by omega) rfl rfl rfl (leadS_ok h.ok)
  have HD := Lib.hid (h1.then h2)
  obtain ⟨c0, _, _, _, _, _, c6, c7, _, _, _⟩ := h.blk.cells
  have f6 := Blk.free h.blk 6
  have f7 := Blk.free h1.im.blk 7
  clear h h1 h2
  go_enter Tryz.func128, Tryz.ntmps128
  go_wp2
  go_end0
  exact ⟨rfl, HD.out⟩
set_option maxRecDepth 100000 in
set_option maxHeartbeats 1600000 in
theorem said_any (p : Pl) (s : St) (a : Int) (w : World) (h : Im w p s) : Calls Tryz.prog 136 #[.pointer (some ⟨p.g, 0, none⟩), .int .i64 a] w fun e w' => ∃ v, e = .returned v ∧ OwnI w w' v (saidL s.am a) := by
  have HIM := Lib.hid h
  have HT := Lib.hid (saidTo_succ s.am a)
  have HLE := Lib.hid (saidTo_len s.am a)
  clear h
  go_enter Tryz.func136, Tryz.ntmps136
  go_wp2_with fail
  go_loopw [5, 6] (fun v i wr => ∃ k : Nat, k ≤ 15 ∧ i = .int .i64 ((k : Int) + 1) ∧ OwnI w wr v (saidTo s.am a k)) (fun _ i _ => 16 - (intOf i).toNat)
  case atStart => exact ⟨0, Nat.zero_le _, rfl, OwnI.nil _ _ (Below.refl _ _)⟩
  case round =>
    obtain ⟨k, hk, rfl, hO⟩ := hrel
    have HO := Lib.hid hO
    have HI := Lib.hid (HIM.out.below hO.1)
    clear hO
    have c10 := HI.out.blk.cells.2.2.2.2.2.2.2.2.2.2
    by_cases hlt : k < 15
    · have hrun := HI.out.map.look (k := (k : Int) + 1) ⟨by omega, by omega⟩
      have hle := HLE.out k
      have HT1 := Lib.hid (HT.out k)
      generalize hrr : saidTo s.am a k = rr at *
      have q2 : decide ((k : Int) + 1 ≤ 15) = true := by simp; omega
      cases hb : (s.am ((k : Int) + 1) == a) with
      | true =>
        rw [hb] at HT1
        have HT2 := Lib.hid (show saidTo s.am a (k + 1) = rr ++ [(k : Int) + 1] by rw [HT1.out]; rfl)
        have HO2 := Lib.hid (HO.out.below (alloc_below wr (.cells #[.int .i64 ((k : Int) + 1)] 3)))
        go_wp2_with (at_builtin; refine wpList_append_ints rfl _ _ rfl w _ rr rfl HO2.out _ 1 1 [(k : Int) + 1] rfl (fun h => by cases h) (rdI_one wr ((k : Int) + 1)) (by omega) ?_; intro v3 w3 hO3 _; have HO3 := Lib.hid hO3; clear hO3)
        go_roundw
        case rel => exact ⟨k + 1, by omega, by go_num, by rw [HT2.out]; exact HO3.out⟩
        case measure => simp [intOf]; omega
      | false =>
        rw [hb] at HT1
        have HT2 := Lib.hid (show saidTo s.am a (k + 1) = rr by rw [HT1.out]; simp)
        go_wp2_with fail
        go_roundw
        case rel => exact ⟨k + 1, by omega, by go_num, by rw [HT2.out]; exact HO.out⟩
        case measure => simp [intOf]; omega
    · obtain rfl : k = 15 := by omega
      go_wp2
      go_ret
      exact ⟨_, rfl, HO.out⟩
end Go.Proofs.YtjadfpcipicckaaGreat.El

namespace Go.Proofs.YtjadfpcipicckaaGreat.El
open Go.RowKit Go.Proofs.YtjadfpcipicckaaGreat.Qu Go.Proofs.YtjadfpcipicckaaGreat.Fld
set_option linter.unusedVariables false

/-- the outcome: 0 open, 1 won, 2 lost -/
def outN (vs : List Int) (am : Int → Int) : Int := if wonA vs am then 1 else if lostA vs am then 2 else 0
theorem said15 (am : Int → Int) (a : Int) : (saidL am a).length ≤ 15 := saidTo_len am a 15
set_option maxRecDepth 100000 in
set_option maxHeartbeats 3200000 in
theorem outcome_any (p : Pl) (s : St) (w : World) (h : Im w p s) : Calls Tryz.prog 127 #[.pointer (some ⟨p.g, 0, none⟩)] w fun e w' => e = .returned (.int .i64 (outN s.vs s.am)) ∧ Below w.heap.size w w' := by
  have HB := Lib.hid (Below.refl w.heap.size w)
  have HS1 := Lib.hid (fun W (hW : Below w.heap.size w W) => said_any p s 1 W (h.below hW))
  have HS2 := Lib.hid (fun W (hW : Below w.heap.size w W) => said_any p s 2 W (h.below hW))
  have HL1 := Lib.hid (said15 s.am 1)
  have HL2 := Lib.hid (said15 s.am 2)
  have HW := Lib.hid (fun A k W (hW : Below w.heap.size w W) (hr : RdI W A (saidL s.am 1).length (saidL s.am 1)) => wins_any p.VA s.vs.length p.vc s.vs p.LA s.ls.length p.lc s.ls A (saidL s.am 1).length k (saidL s.am 1) W (h.below hW).vs (h.below hW).ls hr)
  have HX := Lib.hid (fun A k W (hW : Below w.heap.size w W) (hr : RdI W A (saidL s.am 2).length (saidL s.am 2)) => lost_any p.VA s.vs.length p.vc s.vs p.LA s.ls.length p.lc s.ls A (saidL s.am 2).length k (saidL s.am 2) W (h.below hW).vs (h.below hW).ls hr)
  rw [wins_said h.ok.grp] at HW
  rw [lost_said h.ok.grp] at HX
  have HA := Lib.hid (fun W (hW : Below w.heap.size w W) => And.intro (h.below hW).blk.cells.2.2.2.2.1 (h.below hW).blk.cells.2.2.2.2.2.1)
  have c4 := h.blk.cells.2.2.2.2.1
  have c5 := h.blk.cells.2.2.2.2.2.1
  unfold grpV at HW HX
  generalize saidL s.am 1 = l1 at *
  generalize saidL s.am 2 = l2 at *
  clear h
  cases hw : wonA s.vs s.am with
  | true =>
    have HO := Lib.hid (show outN s.vs s.am = 1 by unfold outN; rw [hw]; rfl)
    rw [hw] at HW
    rw [HO.out]
    go_enter Tryz.func127, Tryz.ntmps127
    go_wp2_with fail
    go_region_held3 (fun w' => w'.cell? ⟨p.g, 4, none⟩ = some (.slice p.VA s.vs.length p.vc) ∧ w'.cell? ⟨p.g, 5, none⟩ = some (.slice p.LA s.ls.length p.lc)) (first | exact ⟨by assumption, by assumption⟩ | go_keep) (first
      | (go_at_call 136; refine (HS1.out _ (by first | exact HB.out | exact HB.out.drew)).mono ?_; rintro e w1 ⟨v1, rfl, hO1⟩; obtain ⟨A1, k1, rfl, hr1, _, _, _, _⟩ := hO1.form (by have := HL1.out; omega); have HR1 := Lib.hid hr1; have HB := Lib.hid ((show Below w.heap.size w _ from by first | exact HB.out | exact HB.out.drew).trans (hO1.1.mono (by exact HB.out.size))); clear c4 c5 hO1 hr1; obtain ⟨c4, c5⟩ := HA.out _ HB.out)
      | (go_at_call 66; refine (HW.out _ _ _ (by first | exact HB.out | exact HB.out.drew) (by exact HR1.out)).mono ?_; rintro e w2 ⟨rfl, hb2⟩; have HB := Lib.hid ((show Below w.heap.size w _ from by first | exact HB.out | exact HB.out.drew).trans (hb2.mono (by exact HB.out.size))); clear c4 c5 hb2; obtain ⟨c4, c5⟩ := HA.out _ HB.out))
    all_goals
      go_wp2
      go_ret
      exact ⟨rfl, by first | exact HB.out | exact HB.out.drew⟩
  | false =>
    rw [hw] at HW
    cases hl : lostA s.vs s.am with
    | true =>
      have HO := Lib.hid (show outN s.vs s.am = 2 by unfold outN; rw [hw, hl]; rfl)
      rw [hl] at HX
      rw [HO.out]
      go_enter Tryz.func127, Tryz.ntmps127
      go_wp2_with fail
      go_region_held3 (fun w' => w'.cell? ⟨p.g, 4, none⟩ = some (.slice p.VA s.vs.length p.vc) ∧ w'.cell? ⟨p.g, 5, none⟩ = some (.slice p.LA s.ls.length p.lc)) (first | exact ⟨by assumption, by assumption⟩ | go_keep) (first
        | (go_at_call 136; refine (HS1.out _ (by first | exact HB.out | exact HB.out.drew)).mono ?_; rintro e w1 ⟨v1, rfl, hO1⟩; obtain ⟨A1, k1, rfl, hr1, _, _, _, _⟩ := hO1.form (by have := HL1.out; omega); have HR1 := Lib.hid hr1; have HB := Lib.hid ((show Below w.heap.size w _ from by first | exact HB.out | exact HB.out.drew).trans (hO1.1.mono (by exact HB.out.size))); clear c4 c5 hO1 hr1; obtain ⟨c4, c5⟩ := HA.out _ HB.out)
        | (go_at_call 66; refine (HW.out _ _ _ (by first | exact HB.out | exact HB.out.drew) (by exact HR1.out)).mono ?_; rintro e w2 ⟨rfl, hb2⟩; have HB := Lib.hid ((show Below w.heap.size w _ from by first | exact HB.out | exact HB.out.drew).trans (hb2.mono (by exact HB.out.size))); clear c4 c5 hb2; obtain ⟨c4, c5⟩ := HA.out _ HB.out))
      all_goals
        clear HR1
        go_wp2_with fail
        go_region_held3 (fun w' => w'.cell? ⟨p.g, 4, none⟩ = some (.slice p.VA s.vs.length p.vc) ∧ w'.cell? ⟨p.g, 5, none⟩ = some (.slice p.LA s.ls.length p.lc)) (first | exact ⟨by assumption, by assumption⟩ | go_keep) (first
          | (go_at_call 136; refine (HS2.out _ (by first | exact HB.out | exact HB.out.drew)).mono ?_; rintro e w3 ⟨v3, rfl, hO3⟩; obtain ⟨A3, k3, rfl, hr3, _, _, _, _⟩ := hO3.form (by have := HL2.out; omega); have HR3 := Lib.hid hr3; have HB := Lib.hid ((show Below w.heap.size w _ from by first | exact HB.out | exact HB.out.drew).trans (hO3.1.mono (by exact HB.out.size))); clear c4 c5 hO3 hr3; obtain ⟨c4, c5⟩ := HA.out _ HB.out)
          | (go_at_call 137; refine (HX.out _ _ _ (by first | exact HB.out | exact HB.out.drew) (by exact HR3.out)).mono ?_; rintro e w4 ⟨rfl, hb4⟩; have HB := Lib.hid ((show Below w.heap.size w _ from by first | exact HB.out | exact HB.out.drew).trans (hb4.mono (by exact HB.out.size))); clear c4 c5 hb4; obtain ⟨c4, c5⟩ := HA.out _ HB.out))
        all_goals
          go_wp2
          go_ret
          exact ⟨rfl, by first | exact HB.out | exact HB.out.drew⟩
    | false =>
      have HO := Lib.hid (show outN s.vs s.am = 0 by unfold outN; rw [hw, hl]; rfl)
      rw [hl] at HX
      rw [HO.out]
      go_enter Tryz.func127, Tryz.ntmps127
      go_wp2_with fail
      go_region_held3 (fun w' => w'.cell? ⟨p.g, 4, none⟩ = some (.slice p.VA s.vs.length p.vc) ∧ w'.cell? ⟨p.g, 5, none⟩ = some (.slice p.LA s.ls.length p.lc)) (first | exact ⟨by assumption, by assumption⟩ | go_keep) (first
        | (go_at_call 136; refine (HS1.out _ (by first | exact HB.out | exact HB.out.drew)).mono ?_; rintro e w1 ⟨v1, rfl, hO1⟩; obtain ⟨A1, k1, rfl, hr1, _, _, _, _⟩ := hO1.form (by have := HL1.out; omega); have HR1 := Lib.hid hr1; have HB := Lib.hid ((show Below w.heap.size w _ from by first | exact HB.out | exact HB.out.drew).trans (hO1.1.mono (by exact HB.out.size))); clear c4 c5 hO1 hr1; obtain ⟨c4, c5⟩ := HA.out _ HB.out)
        | (go_at_call 66; refine (HW.out _ _ _ (by first | exact HB.out | exact HB.out.drew) (by exact HR1.out)).mono ?_; rintro e w2 ⟨rfl, hb2⟩; have HB := Lib.hid ((show Below w.heap.size w _ from by first | exact HB.out | exact HB.out.drew).trans (hb2.mono (by exact HB.out.size))); clear c4 c5 hb2; obtain ⟨c4, c5⟩ := HA.out _ HB.out))
      all_goals
        clear HR1
        go_wp2_with fail
        go_region_held3 (fun w' => w'.cell? ⟨p.g, 4, none⟩ = some (.slice p.VA s.vs.length p.vc) ∧ w'.cell? ⟨p.g, 5, none⟩ = some (.slice p.LA s.ls.length p.lc)) (first | exact ⟨by assumption, by assumption⟩ | go_keep) (first
          | (go_at_call 136; refine (HS2.out _ (by first | exact HB.out | exact HB.out.drew)).mono ?_; rintro e w3 ⟨v3, rfl, hO3⟩; obtain ⟨A3, k3, rfl, hr3, _, _, _, _⟩ := hO3.form (by have := HL2.out; omega); have HR3 := Lib.hid hr3; have HB := Lib.hid ((show Below w.heap.size w _ from by first | exact HB.out | exact HB.out.drew).trans (hO3.1.mono (by exact HB.out.size))); clear c4 c5 hO3 hr3; obtain ⟨c4, c5⟩ := HA.out _ HB.out)
          | (go_at_call 137; refine (HX.out _ _ _ (by first | exact HB.out | exact HB.out.drew) (by exact HR3.out)).mono ?_; rintro e w4 ⟨rfl, hb4⟩; have HB := Lib.hid ((show Below w.heap.size w _ from by first | exact HB.out | exact HB.out.drew).trans (hb4.mono (by exact HB.out.size))); clear c4 c5 hb4; obtain ⟨c4, c5⟩ := HA.out _ HB.out))
        all_goals
          go_wp2
          go_ret
          exact ⟨rfl, by first | exact HB.out | exact HB.out.drew⟩
def begun (s : St) : St := { s with am := onlyA s.id }
theorem begun_ok {s : St} (h : s.Ok) : (begun s).Ok := ⟨h.id1, h.hard, h.grp, h.pat1, h.w0, h.lm, h.role, h.lead, onlyA_ok h.id1⟩
set_option maxRecDepth 100000 in
set_option maxHeartbeats 1600000 in
theorem begin_any (p : Pl) (s : St) (w : World) (h : Im w p s) : Calls Tryz.prog 108 #[.pointer (some ⟨p.g, 0, none⟩)] w fun e w' => e = .returned (.int .i64 (outN s.vs (onlyA s.id))) ∧ Did w w' p (begun s) := by
  obtain ⟨w1, hrun1, hm1, ht1⟩ := h.map.clear
  have h1 := h.mapped ht1 (s' := { s with am := noneA }) hm1 rfl rfl rfl ⟨h.ok.id1, h.ok.hard, h.ok.grp, h.ok.pat1, h.ok.w0, h.ok.lm, h.ok.role, h.ok.lead, fun k => .inl rfl⟩
  obtain ⟨w2, hrun2, hm2, ht2⟩ := (show MapA w1.drew p.b noneA from h1.im.map).store (k := s.id) h.ok.id1 (v := 1) (by omega)
  have h1d : Did w w1.drew p { s with am := noneA } := h1.to (below_dr w1 1)
  have h2 := h1d.im.mapped ht2 (s' := begun s) hm2 rfl rfl rfl (begun_ok h.ok)
  have HD := Lib.hid (h1d.then h2)
  have HO := Lib.hid (outcome_any p (begun s) w2 h2.im)
  obtain ⟨_, _, _, _, _, _, _, _, _, _, c10⟩ := h.blk.cells
  obtain ⟨d0, _, _, _, _, _, _, _, _, _, d10⟩ := h1.im.blk.cells
  clear h h1 h1d h2 hm1 hm2 ht1 ht2
  go_enter Tryz.func108, Tryz.ntmps108
  go_wp2_with fail
  go_region
  go_wp2_with fail
  refine HO.out.mono ?_
  rintro e w3 ⟨rfl, hb3⟩
  have HD3 := Lib.hid (HD.out.to hb3)
  clear hb3
  go_wp2
  go_ret
  exact ⟨rfl, HD3.out⟩
end Go.Proofs.YtjadfpcipicckaaGreat.El
