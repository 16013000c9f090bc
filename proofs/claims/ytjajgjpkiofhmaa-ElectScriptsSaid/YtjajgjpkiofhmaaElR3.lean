/-
  Layer 10, in the program: preSay. Conditions: as each theorem states.
-/
import Derived.Test.YtjajgjpkiofhmaaElR2
import Derived.Deep.CutRange
namespace Go.Proofs.Ytjajgjpkiofhmaa.El
open Go.RowKit Go.Proofs.Ytjajgjpkiofhmaa.Qu Go.Proofs.Ytjajgjpkiofhmaa.Fld
set_option linter.unusedVariables false

theorem node_wins {lo N : Nat} {w : World} {q : Ql} {s : St} (h : Rm lo N w q s) (W : World) (hW : Below w.heap.size w W) : Calls Try.prog 37 #[.agg #[.slice q.VA s.vs.length q.vc, .slice q.LA s.ls.length q.lc], q.yv] W fun e w' => e = .returned (.bool (wonA s.vs s.am)) ∧ Below W.heap.size W w' := by
  obtain ⟨A, c, hv, hr⟩ := ownsI_read (h.rb.below hW).ry
  have := refwins_any q.VA s.vs.length q.vc s.vs q.LA s.ls.length q.lc s.ls A q.yl.length c q.yl W (h.rb.below hW).vs (h.rb.below hW).ls hr
  rw [h.wins] at this
  rw [hv]
  exact this
theorem node_lost {lo N : Nat} {w : World} {q : Ql} {s : St} (h : Rm lo N w q s) (W : World) (hW : Below w.heap.size w W) : Calls Try.prog 49 #[.agg #[.slice q.VA s.vs.length q.vc, .slice q.LA s.ls.length q.lc], q.nv] W fun e w' => e = .returned (.bool (lostA s.vs s.am)) ∧ Below W.heap.size W w' := by
  obtain ⟨A, c, hv, hr⟩ := ownsI_read (h.rb.below hW).rn
  have := reflost_any q.VA s.vs.length q.vc s.vs q.LA s.ls.length q.lc s.ls A q.nl.length c q.nl W (h.rb.below hW).vs (h.rb.below hW).ls hr
  rw [h.lost] at this
  rw [hv]
  exact this
theorem preSay_bool (s : St) (b : Bal) (last lt : Int) : preSay s b last lt = if (!b.yes && decide (s.term < b.term)) then (down s b.term, []) else if ((s.role != 1) || (b.yes && (b.term != s.term + 1))) then (s, []) else if wonA s.vs (recA s.am b) then run (recS s b) last lt else if lostA s.vs (recA s.am b) then ({ recS s b with role := 0 }, []) else (recS s b, []) := by
  unfold preSay
  by_cases a1 : b.yes = false ∧ s.term < b.term
  · have e1 : (!b.yes && decide (s.term < b.term)) = true := by simp [a1.1, a1.2]
    rw [e1, if_pos a1]
    rfl
  · have e1 : (!b.yes && decide (s.term < b.term)) = false := Bool.eq_false_iff.2 (by intro e; simp at e; exact a1 e)
    rw [e1, if_neg a1]
    by_cases a2 : s.role ≠ 1 ∨ (b.yes = true ∧ b.term ≠ s.term + 1)
    · have e2 : ((s.role != 1) || (b.yes && (b.term != s.term + 1))) = true := by simpa using a2
      rw [e2, if_pos a2]
      rfl
    · have e2 : ((s.role != 1) || (b.yes && (b.term != s.term + 1))) = false := Bool.eq_false_iff.2 (by intro e; simp at e; exact a2 e)
      rw [e2, if_neg a2]
      rfl
set_option maxRecDepth 100000 in
set_option maxHeartbeats 3200000 in
theorem rpreSay_any {lo N : Nat} (q : Ql) (s : St) (b : Bal) (last lt : Int) (w : World) (h : Rm lo N w q s) (hN : 1 ≤ N) (hN2 : N ≤ 100000) (hbf : okNode b.frm = true) (hbt : okTerm b.term = true) : Calls Try.prog 46 #[.pointer (some ⟨q.g, 0, none⟩), b.val, .int .i64 last, .int .i64 lt] w fun e w' => ∃ v q', e = .returned v ∧ RA lo (N + 1) w w' q q' (preSay s b last lt).1 v (preSay s b last lt).2 := by
  have hal := alloc_below w (.cells (ballC b) 40)
  have hi := h.below hal
  have hd0 := RD.same h hal
  have hk1 := Blk.new w (ballC b) 40
  have hn1 : w.heap.size ∉ q.foot := fun hm => by have := (h.rb.flt _ hm).2; omega
  have HNF := Lib.hid hn1
  have HK0 := Lib.hid hk1
  have HD0 := Lib.hid hd0
  have HI0 := Lib.hid hi
  have HOK := Lib.hid h.rb.ok
  obtain ⟨_, c1, _, _, _, _, c6, _, _, _, _, _⟩ := hi.rb.cells
  have ht2 : s.term ≤ 1099511627776 := ((okHard_iff _ _).1 h.rb.ok.hard).1.2
  have ht1 : 0 ≤ s.term := ((okHard_iff _ _).1 h.rb.ok.hard).1.1
  have j1 : IntKind.i64.wrap (s.term + 1) = s.term + 1 := IntWalk.i64_in _ (by omega)
  have b0 := hk1.cell 0 (.int .i64 b.kind) rfl
  have b1 := hk1.cell 1 (.int .i64 b.frm) rfl
  have b2 := hk1.cell 2 (.int .i64 b.to) rfl
  have b3 := hk1.cell 3 (.int .i64 b.term) rfl
  have b4 := hk1.cell 4 (.int .i64 b.idx) rfl
  have b5 := hk1.cell 5 (.int .i64 b.lt) rfl
  have b6 := hk1.cell 6 (.bool b.yes) rfl
  have HSD := Lib.hid (fun W (hW : Rm lo N W q s) => rdown_any q s b.term W hW hbt)
  have HSY := Lib.hid (fun W (hW : Rm lo N W q s) => rsays_any q s b W hW hbf hN2)
  have HRUN := Lib.hid (fun W qq (hW : Rm lo (N + 1) W qq (recS s b)) => rrun_any qq (recS s b) last lt W hW (by omega))
  obtain ⟨x1, hx1⟩ : ∃ x, (!b.yes && decide (s.term < b.term)) = x := ⟨_, rfl⟩
  obtain ⟨x2, hx2⟩ : ∃ x, ((s.role != 1) || (b.yes && (b.term != s.term + 1))) = x := ⟨_, rfl⟩
  have HX1 := Lib.hid hx1
  have HX2 := Lib.hid hx2
  have hp := preSay_bool s b last lt
  rw [hx1, hx2] at hp
  have HP := Lib.hid hp
  unfold ballC at *
  unfold Bal.val
  clear h hal hi hd0 hk1 hn1 hx1 hx2 hp
  go_enter Try.func46, Try.ntmps46
  go_upto_region 1 with fail
  generalize hwx : (w.alloc (.cells #[.int .i64 b.kind, .int .i64 b.frm, .int .i64 b.to, .int .i64 b.term, .int .i64 b.idx, .int .i64 b.lt, .bool b.yes] 40)) = wq at *
  have HWX := Lib.hid hwx
  clear hwx
  go_cut [23] from 11 to 22 (fun c wx => c = .bool x1 ∧ Below wq.heap.size wq wx)
  case first =>
    have hx1 := HX1.out
    rcases (show b.yes = true ∨ b.yes = false by cases b.yes <;> simp) with hy | hy
    · rw [hy] at b6
      have HE := Lib.hid (show x1 = false by rw [← hx1, hy]; rfl)
      clear hx1 hy
      go_quiet (fail)
      go_wp2_with fail
      go_meet
      exact ⟨by rw [HE.out], by simpa using below_dr _ _⟩
    · rw [hy] at b6
      by_cases ht : s.term < b.term
      · have d1 : decide (s.term < b.term) = true := decide_eq_true ht
        have HE := Lib.hid (show x1 = true by rw [← hx1, hy, d1]; rfl)
        clear hx1 hy ht
        go_quiet (fail)
        go_wp2_with fail
        go_meet
        exact ⟨by rw [HE.out], by simpa using below_dr _ _⟩
      · have d1 : decide (s.term < b.term) = false := decide_eq_false ht
        have HE := Lib.hid (show x1 = false by rw [← hx1, hy, d1]; rfl)
        clear hx1 hy ht
        go_quiet (fail)
        go_wp2_with fail
        go_meet
        exact ⟨by rw [HE.out], by simpa using below_dr _ _⟩
  case rest =>
    obtain ⟨rfl, hbw⟩ := hcut
    have HB1 := Lib.hid hbw
    clear hbw c1 c6 b0 b1 b2 b3 b4 b5 b6
    obtain ⟨wa, rfl⟩ : ∃ wa, wa = wc := ⟨_, rfl⟩
    have HI1 := Lib.hid (HI0.out.below HB1.out)
    have HD1 := Lib.hid (HD0.out.to HB1.out)
    have HK1 := Lib.hid (HK0.out.below HB1.out)
    obtain ⟨_, c1, _, _, _, _, c6, _, _, _, _, _⟩ := HI1.out.rb.cells
    have b0 := HK1.out.cell 0 (.int .i64 b.kind) rfl
    have b1 := HK1.out.cell 1 (.int .i64 b.frm) rfl
    have b2 := HK1.out.cell 2 (.int .i64 b.to) rfl
    have b3 := HK1.out.cell 3 (.int .i64 b.term) rfl
    have b4 := HK1.out.cell 4 (.int .i64 b.idx) rfl
    have b5 := HK1.out.cell 5 (.int .i64 b.lt) rfl
    have b6 := HK1.out.cell 6 (.bool b.yes) rfl
    cases x1 with
    | true =>
      have HE := Lib.hid (show preSay s b last lt = (down s b.term, []) by rw [HP.out]; rfl)
      go_wp2_with fail
      refine (HSD.out _ (by exact HI1.out)).mono ?_
      rintro e w1 ⟨rfl, q1, hd1, hg1⟩
      have HD2 := Lib.hid (HD1.out.then hd1)
      have HG := Lib.hid hg1
      clear hd1 hg1
      go_wp2
      go_ret
      first | exact ⟨_, q1, rfl, by rw [HE.out]; exact (RA.emp HD2.out HG.out).mono (Nat.le_succ _)⟩ | exact ⟨_, rfl, q1, by rw [HE.out]; exact (RA.emp HD2.out HG.out).mono (Nat.le_succ _)⟩
    | false =>
      go_upto_region 4 with fail
      go_cut [47] from 28 to 46 (fun c wx => c = .bool x2 ∧ Below wa.heap.size wa wx)
      case first =>
        have hx2 := HX2.out
        by_cases hr : s.role = 1
        · have q1 : (s.role != 1) = false := by simp [hr]
          rcases (show b.yes = true ∨ b.yes = false by cases b.yes <;> simp) with hy | hy
          · rw [hy] at b6
            by_cases ht : b.term = s.term + 1
            · have q2 : (b.term != s.term + 1) = false := by simp [ht]
              have HE := Lib.hid (show x2 = false by rw [← hx2, q1, q2, hy]; rfl)
              clear hx2 hy ht hr
              go_quiet (fail)
              go_wp2_with fail
              go_meet
              exact ⟨by rw [HE.out], by simpa using below_dr _ _⟩
            · have q2 : (b.term != s.term + 1) = true := by simpa using ht
              have HE := Lib.hid (show x2 = true by rw [← hx2, q1, q2, hy]; rfl)
              clear hx2 hy ht hr
              go_quiet (fail)
              go_wp2_with fail
              go_meet
              exact ⟨by rw [HE.out], by simpa using below_dr _ _⟩
          · rw [hy] at b6
            have HE := Lib.hid (show x2 = false by rw [← hx2, q1, hy]; rfl)
            clear hx2 hy hr
            go_quiet (fail)
            go_wp2_with fail
            go_meet
            exact ⟨by rw [HE.out], by simpa using below_dr _ _⟩
        · have q1 : (s.role != 1) = true := by simpa using hr
          have HE := Lib.hid (show x2 = true by rw [← hx2, q1]; rfl)
          clear hx2 hr
          go_quiet (fail)
          go_wp2_with fail
          go_meet
          exact ⟨by rw [HE.out], by simpa using below_dr _ _⟩
      case rest =>
        obtain ⟨rfl, hbw⟩ := hcut
        obtain ⟨wb, rfl⟩ : ∃ wb, wb = wc := ⟨_, rfl⟩
        have HI2 := Lib.hid (HI1.out.below hbw)
        have HD2 := Lib.hid (HD1.out.to hbw)
        have HK2 := Lib.hid (HK1.out.below hbw)
        clear hbw c1 c6 b0 b1 b2 b3 b4 b5 b6
        have b1 := HK2.out.cell 1 (.int .i64 b.frm) rfl
        have b6 := HK2.out.cell 6 (.bool b.yes) rfl
        cases x2 with
        | true =>
          have HE := Lib.hid (show preSay s b last lt = (s, []) by rw [HP.out]; rfl)
          go_wp2
          go_ret
          first | exact ⟨_, q, rfl, by rw [HE.out]; exact (RA.emp HD2.out rfl).mono (Nat.le_succ _)⟩ | exact ⟨_, rfl, q, by rw [HE.out]; exact (RA.emp HD2.out rfl).mono (Nat.le_succ _)⟩
        | false =>
          go_wp2_with fail
          refine (HSY.out _ (by exact HI2.out)).mono ?_
          rintro e w3 ⟨rfl, q1, hd3, hg3⟩
          have HD3 := Lib.hid (HD2.out.then hd3)
          have HG := Lib.hid hg3
          clear hd3 hg3 b1 b6
          obtain ⟨g0, _, _, g3, g4, _, _, _, _, _, g10, _⟩ := HD3.out.rm.rb.cells
          rw [show (recS s b).vs = s.vs from rfl, HG.out] at g3
          rw [show (recS s b).ls = s.ls from rfl, HG.out] at g4
          rw [HG.out] at g10
          have HWC := Lib.hid (fun W (hW : Below w3.heap.size w3 W) => node_wins HD3.out.rm W hW)
          have HLC := Lib.hid (fun W (hW : Below w3.heap.size w3 W) => node_lost HD3.out.rm W hW)
          go_upto_region 7 with fail
          go_cut [9] from 54 to 62 (fun c wx => c = .bool (wonA s.vs (recA s.am b)) ∧ Below w3.heap.size w3 wx)
          case first =>
            go_region_held3 (fun w' => w'.cell? ⟨q.g, 3, none⟩ = some (.slice q1.VA s.vs.length q1.vc) ∧ w'.cell? ⟨q.g, 4, none⟩ = some (.slice q1.LA s.ls.length q1.lc) ∧ w'.cell? ⟨q.g, 10, none⟩ = some q1.yv) (first | exact ⟨by assumption, by assumption, by assumption⟩ | go_keep) (first
              | (go_at_call 37; refine (HWC.out _ (by exact below_d1 w3)).mono ?_; rintro e w5 ⟨rfl, hb5⟩; have HB5 := Lib.hid ((below_d1 w3).trans hb5); have y3 := (hb5.cell (lt_of_cell (show World.cell? _ _ = some _ from g3))).trans g3; have y4 := (hb5.cell (lt_of_cell (show World.cell? _ _ = some _ from g4))).trans g4; have y10 := (hb5.cell (lt_of_cell (show World.cell? _ _ = some _ from g10))).trans g10; clear hb5))
            all_goals
              go_wp2_with fail
              go_meet
              exact ⟨rfl, HB5.out⟩
          case rest =>
            obtain ⟨rfl, hbw⟩ := hcut
            obtain ⟨wd, rfl⟩ : ∃ wd, wd = wc := ⟨_, rfl⟩
            have HD4 := Lib.hid (HD3.out.to hbw)
            have HLC := Lib.hid (fun W (hW : Below wd.heap.size wd W) => HLC.out W (hbw.trans (hW.mono hbw.size)))
            clear hbw g0 g3 g4 g10 HWC
            obtain ⟨g0, _, _, g3, g4, _, g6, _, _, _, _, g10⟩ := HD4.out.rm.rb.cells
            have f6 := Blk.free HD4.out.rm.rb.blk 6
            rw [show (recS s b).vs = s.vs from rfl, HG.out] at g3
            rw [show (recS s b).ls = s.ls from rfl, HG.out] at g4
            rw [HG.out] at g10 g6 f6
            go_upto_region 8 with fail
            go_cut [10] from 63 to 71 (fun c wx => c = .bool (lostA s.vs (recA s.am b)) ∧ Below wd.heap.size wd wx)
            case first =>
              go_region_held3 (fun w' => w'.cell? ⟨q.g, 3, none⟩ = some (.slice q1.VA s.vs.length q1.vc) ∧ w'.cell? ⟨q.g, 4, none⟩ = some (.slice q1.LA s.ls.length q1.lc) ∧ w'.cell? ⟨q.g, 11, none⟩ = some q1.nv) (first | exact ⟨by assumption, by assumption, by assumption⟩ | go_keep) (first
                | (go_at_call 49; refine (HLC.out _ (by exact below_d1 wd)).mono ?_; rintro e w5 ⟨rfl, hb5⟩; have HB5 := Lib.hid ((below_d1 wd).trans hb5); have y3 := (hb5.cell (lt_of_cell (show World.cell? _ _ = some _ from g3))).trans g3; have y4 := (hb5.cell (lt_of_cell (show World.cell? _ _ = some _ from g4))).trans g4; have y10 := (hb5.cell (lt_of_cell (show World.cell? _ _ = some _ from g10))).trans g10; clear hb5))
              all_goals
                go_wp2_with fail
                go_meet
                exact ⟨rfl, HB5.out⟩
            case rest =>
              obtain ⟨rfl, hbw⟩ := hcut
              obtain ⟨we, rfl⟩ : ∃ we, we = wc := ⟨_, rfl⟩
              have HD5 := Lib.hid (HD4.out.to hbw)
              clear hbw g0 g3 g4 g10 g6 f6 HLC
              cases hw : wonA s.vs (recA s.am b) with
              | true =>
                have HE := Lib.hid (show preSay s b last lt = run (recS s b) last lt by rw [HP.out, hw]; rfl)
                have HRU := Lib.hid (HRUN.out we q1 HD5.out.rm)
                rw [HG.out] at HRU
                clear hw
                go_wp2_with fail
                refine HRU.out.mono ?_
                rintro e w7 ⟨v7, q7, rfl, hA⟩
                have HA := Lib.hid hA
                clear hA
                go_wp2
                go_ret
                first | exact ⟨_, q7, rfl, by rw [HE.out]; exact RA.then HD5.out HG.out HA.out⟩ | exact ⟨_, rfl, q7, by rw [HE.out]; exact RA.then HD5.out HG.out HA.out⟩
              | false =>
                cases hl : lostA s.vs (recA s.am b) with
                | true =>
                  have HE := Lib.hid (show preSay s b last lt = ({ recS s b with role := 0 }, []) by rw [HP.out, hw, hl]; rfl)
                  have s6 := HD5.out.rm.rb.set 6 (.int .i64 0) (s' := { recS s b with role := 0 }) rfl (by omega) rfl rfl (role_ok HD5.out.rm.rb.ok (by omega))
                  have g6 := HD5.out.rm.rb.cells.2.2.2.2.2.2.1
                  have f6 := Blk.free HD5.out.rm.rb.blk 6
                  have HD6 := Lib.hid (HD5.out.then (s6.rd HD5.out.rm.hy HD5.out.rm.hn))
                  rw [HG.out] at g6 f6 HD6
                  clear hw hl s6
                  go_wp2
                  go_ret
                  first | exact ⟨_, q1, rfl, by rw [HE.out]; exact RA.emp HD6.out HG.out⟩ | exact ⟨_, rfl, q1, by rw [HE.out]; exact RA.emp HD6.out HG.out⟩
                | false =>
                  have HE := Lib.hid (show preSay s b last lt = (recS s b, []) by rw [HP.out, hw, hl]; rfl)
                  clear hw hl
                  go_wp2
                  go_ret
                  first | exact ⟨_, q1, rfl, by rw [HE.out]; exact RA.emp HD5.out HG.out⟩ | exact ⟨_, rfl, q1, by rw [HE.out]; exact RA.emp HD5.out HG.out⟩
end Go.Proofs.Ytjajgjpkiofhmaa.El
