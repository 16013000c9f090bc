/-
  Layer 10, in the program: takePreSay. Conditions: as each theorem states.
-/
import Derived.Test.YtjajgjpkiofhmaaElK2
import Derived.Deep.CutRange
namespace Go.Proofs.Ytjajgjpkiofhmaa.El
open Go.RowKit Go.Proofs.Ytjajgjpkiofhmaa.Qu Go.Proofs.Ytjajgjpkiofhmaa.Fld
set_option linter.unusedVariables false

set_option maxRecDepth 100000 in
set_option maxHeartbeats 3200000 in
theorem takePreSay_any (p : Pl) (s : St) (b : Bal) (last lt : Int) (w : World) (h : Im w p s) (hbf : okNode b.frm = true) (hbt : okTerm b.term = true) : Calls Try.prog 43 #[.pointer (some ⟨p.g, 0, none⟩), b.val, entV last lt] w fun e w' => ∃ v, e = .returned v ∧ Ans w w' p (preSay s b last lt).1 v (preSay s b last lt).2 := by
  have hal := boxes_below w b last lt
  have hi := h.below hal
  have hd0 := Did.same h hal
  obtain ⟨hk1, hk2⟩ := boxes_blk w b last lt
  have hn1 := h.new w.heap.size (Nat.le_refl _)
  have hn2 := h.new (w.heap.size + 1) (by omega)
  have HKS := Lib.hid (fun W (hf : Dk.Fr p.ft (boxes w b last lt) W) => And.intro (blk_fr hk1 hf hn1) (blk_fr hk2 hf hn2))
  have HN := Lib.hid (fun W => newer_any last lt b W)
  have HIS := Lib.hid (fun W (hW : Below (boxes w b last lt).heap.size (boxes w b last lt) W) => hi.below hW)
  obtain ⟨_, _, c2, _, _, _, c6, _, _, _, _⟩ := hi.blk.cells
  have ht2 : s.term ≤ 1099511627776 := ((okHard_iff _ _).1 h.ok.hard).1.2
  have ht1 : 0 ≤ s.term := ((okHard_iff _ _).1 h.ok.hard).1.1
  have j1 : IntKind.i64.wrap (s.term + 1) = s.term + 1 := IntWalk.i64_in _ (by omega)
  have b0 := hk1.cell 0 (.int .i64 b.kind) rfl
  have b1 := hk1.cell 1 (.int .i64 b.frm) rfl
  have b2 := hk1.cell 2 (.int .i64 b.to) rfl
  have b3 := hk1.cell 3 (.int .i64 b.term) rfl
  have b4 := hk1.cell 4 (.int .i64 b.idx) rfl
  have b5 := hk1.cell 5 (.int .i64 b.lt) rfl
  have b6 := hk1.cell 6 (.bool b.yes) rfl
  have o0 := hk2.cell 0 (.int .i64 last) rfl
  have o1 := hk2.cell 1 (.int .i64 lt) rfl
  have HD0 := Lib.hid hd0
  have HI0 := Lib.hid hi
  have HNX := Lib.hid hn2
  have HREC := Lib.hid (fun W (hW : Im W p s) => record_any p s b W hW hbf)
  have HSD := Lib.hid (fun W (hW : Im W p s) => stepDown_any p s b.term W hW hbt)
  have HRUN := Lib.hid (fun W (hW : Im W p (recS s b)) => run_any p (recS s b) last lt W hW)
  obtain ⟨x1, hx1⟩ : ∃ x, (!b.yes && decide (s.term < b.term)) = x := ⟨_, rfl⟩
  obtain ⟨x2, hx2⟩ : ∃ x, ((s.role != 1) || (b.yes && (b.term != s.term + 1))) = x := ⟨_, rfl⟩
  have HX1 := Lib.hid hx1
  have HX2 := Lib.hid hx2
  have HP := Lib.hid (show preSay s b last lt = if x1 then (down s b.term, []) else if x2 then (s, []) else if wonA s.vs (recA s.am b) then run (recS s b) last lt else if lostA s.vs (recA s.am b) then ({ recS s b with role := 0 }, []) else (recS s b, []) by
    rw [← hx1, ← hx2]
    unfold preSay
    by_cases a1 : b.yes = false ∧ s.term < b.term
    · have e1 : (!b.yes && decide (s.term < b.term)) = true := by simp [a1.1, a1.2]
      rw [e1, if_pos a1]
      rfl
    · have e1 : (!b.yes && decide (s.term < b.term)) = false := Bool.eq_false_iff.2 (by intro e; simp at e; exact a1 e)
      rw [e1, if_neg a1]
      by_cases a2 : s.role ≠ 1 ∨ (b.yes = true ∧ b.term ≠ s.term + 1)
      · have e2 : ((s.role != 1) || (b.yes && (b.term != s.term + 1))) = true := by simpa using a2
        rw [e2, if_pos a2]
        rfl
      · have e2 : ((s.role != 1) || (b.yes && (b.term != s.term + 1))) = false := Bool.eq_false_iff.2 (by intro e; simp at e; exact a2 e)
        rw [e2, if_neg a2]
        rfl)
  unfold entV at HRUN
  unfold entV Bal.val at HREC ⊢
  unfold boxes ballC at *
  clear h hal hi hd0 hk1 hk2 hn1 hn2 hx1 hx2 HN HIS
  go_enter Try.func43, Try.ntmps43
  go_upto_region 1 with fail
  generalize hwx : ((w.alloc (.cells #[.int .i64 b.kind, .int .i64 b.frm, .int .i64 b.to, .int .i64 b.term, .int .i64 b.idx, .int .i64 b.lt, .bool b.yes] 40)).alloc (.cells #[.int .i64 last, .int .i64 lt] 80)) = wq at *
  have HWX := Lib.hid hwx
  clear hwx
  go_cut [19] from 7 to 18 (fun c wx => c = .bool x1 ∧ Below wq.heap.size wq wx)
  case first =>
    have hx1 := HX1.out
    rcases (show b.yes = true ∨ b.yes = false by cases b.yes <;> simp) with hy | hy
    · rw [hy] at b6
      have HE := Lib.hid (show x1 = false by rw [← hx1, hy]; rfl)
      clear hx1 hy
      go_quiet (fail)
      go_wp2_with fail
      go_meet
      exact ⟨by rw [HE.out], by simpa using below_dr _ _⟩
    · rw [hy] at b6
      by_cases ht : s.term < b.term
      · have d1 : decide (s.term < b.term) = true := decide_eq_true ht
        have HE := Lib.hid (show x1 = true by rw [← hx1, hy, d1]; rfl)
        clear hx1 hy ht
        go_quiet (fail)
        go_wp2_with fail
        go_meet
        exact ⟨by rw [HE.out], by simpa using below_dr _ _⟩
      · have d1 : decide (s.term < b.term) = false := decide_eq_false ht
        have HE := Lib.hid (show x1 = false by rw [← hx1, hy, d1]; rfl)
        clear hx1 hy ht
        go_quiet (fail)
        go_wp2_with fail
        go_meet
        exact ⟨by rw [HE.out], by simpa using below_dr _ _⟩
  case rest =>
    obtain ⟨rfl, hbw⟩ := hcut
    have HB1 := Lib.hid (show Below wq.heap.size wq wc from hbw)
    clear hbw c2 c6 b0 b1 b2 b3 b4 b5 b6 o0 o1
    obtain ⟨wa, rfl⟩ : ∃ wa, wa = wc := ⟨_, rfl⟩
    have hi1 := HI0.out.below HB1.out
    have hk := HKS.out wa (Dk.Fr.below HB1.out)
    have HKW := Lib.hid hk
    have HI1 := Lib.hid hi1
    have HD1 := Lib.hid (HD0.out.to HB1.out)
    have c2 := hi1.blk.cells.2.2.1
    have c6 := hi1.blk.cells.2.2.2.2.2.2.1
    have b0 := hk.1.cell 0 (.int .i64 b.kind) rfl
    have b1 := hk.1.cell 1 (.int .i64 b.frm) rfl
    have b2 := hk.1.cell 2 (.int .i64 b.to) rfl
    have b3 := hk.1.cell 3 (.int .i64 b.term) rfl
    have b4 := hk.1.cell 4 (.int .i64 b.idx) rfl
    have b5 := hk.1.cell 5 (.int .i64 b.lt) rfl
    have b6 := hk.1.cell 6 (.bool b.yes) rfl
    clear hi1 hk
    cases x1 with
    | true =>
      have HE := Lib.hid (show preSay s b last lt = (down s b.term, []) by rw [HP.out]; rfl)
      go_wp2_with fail
      refine (HSD.out _ (by exact HI1.out)).mono ?_
      rintro e w1 ⟨rfl, hd1⟩
      have HD2 := Lib.hid (HD1.out.then hd1)
      clear hd1
      go_wp2
      go_ret
      exact ⟨_, rfl, by rw [HE.out]; exact Ans.emp HD2.out⟩
    | false =>
      go_upto_region 4 with fail
      go_cut [43] from 24 to 42 (fun c wx => c = .bool x2 ∧ Below wa.heap.size wa wx)
      case first =>
        have hx2 := HX2.out
        by_cases hr : s.role = 1
        · have q1 : (s.role != 1) = false := by simp [hr]
          rcases (show b.yes = true ∨ b.yes = false by cases b.yes <;> simp) with hy | hy
          · rw [hy] at b6
            by_cases ht : b.term = s.term + 1
            · have q2 : (b.term != s.term + 1) = false := by simp [ht]
              have HE := Lib.hid (show x2 = false by rw [← hx2, q1, q2, hy]; rfl)
              clear hx2 hy ht hr
              go_quiet (fail)
              go_wp2_with fail
              go_meet
              exact ⟨by rw [HE.out], by simpa using below_dr _ _⟩
            · have q2 : (b.term != s.term + 1) = true := by simpa using ht
              have HE := Lib.hid (show x2 = true by rw [← hx2, q1, q2, hy]; rfl)
              clear hx2 hy ht hr
              go_quiet (fail)
              go_wp2_with fail
              go_meet
              exact ⟨by rw [HE.out], by simpa using below_dr _ _⟩
          · rw [hy] at b6
            have HE := Lib.hid (show x2 = false by rw [← hx2, q1, hy]; rfl)
            clear hx2 hy hr
            go_quiet (fail)
            go_wp2_with fail
            go_meet
            exact ⟨by rw [HE.out], by simpa using below_dr _ _⟩
        · have q1 : (s.role != 1) = true := by simpa using hr
          have HE := Lib.hid (show x2 = true by rw [← hx2, q1]; rfl)
          clear hx2 hr
          go_quiet (fail)
          go_wp2_with fail
          go_meet
          exact ⟨by rw [HE.out], by simpa using below_dr _ _⟩
      case rest =>
        obtain ⟨rfl, hbw⟩ := hcut
        have HB2 := Lib.hid hbw
        clear hbw c2 c6 b0 b1 b2 b3 b4 b5 b6
        obtain ⟨wb, rfl⟩ : ∃ wb, wb = wc := ⟨_, rfl⟩
        have HI2 := Lib.hid (HI1.out.below HB2.out)
        have HD2 := Lib.hid (HD1.out.to HB2.out)
        have HK2 := Lib.hid (HKW.out.2.below HB2.out)
        have hk := HKW.out.1.below HB2.out
        have b0 := hk.cell 0 (.int .i64 b.kind) rfl
        have b1 := hk.cell 1 (.int .i64 b.frm) rfl
        have b2 := hk.cell 2 (.int .i64 b.to) rfl
        have b3 := hk.cell 3 (.int .i64 b.term) rfl
        have b4 := hk.cell 4 (.int .i64 b.idx) rfl
        have b5 := hk.cell 5 (.int .i64 b.lt) rfl
        have b6 := hk.cell 6 (.bool b.yes) rfl
        clear hk
        cases x2 with
        | true =>
          have HE := Lib.hid (show preSay s b last lt = (s, []) by rw [HP.out]; rfl)
          go_wp2
          go_ret
          exact ⟨_, rfl, by rw [HE.out]; exact Ans.emp HD2.out⟩
        | false =>
          cases hw : wonA s.vs (recA s.am b) with
          | true =>
            have ho := (outN_won _ _).2 hw
            have HE := Lib.hid (show preSay s b last lt = run (recS s b) last lt by rw [HP.out, hw]; rfl)
            rw [ho] at HREC
            clear ho hw
            go_wp2_with fail
            refine (HREC.out _ (by exact HI2.out)).mono ?_
            rintro e w1 ⟨rfl, hd1⟩
            have HD3 := Lib.hid (HD2.out.then hd1)
            have hk5 := blk_fr HK2.out hd1.fr HNX.out
            have g0 := hk5.cell 0 (.int .i64 last) rfl
            have g1 := hk5.cell 1 (.int .i64 lt) rfl
            clear hd1 hk5
            go_wp2_with fail
            refine (HRUN.out _ (by exact HD3.out.im)).mono ?_
            rintro e w2 ⟨v2, rfl, hA⟩
            have HA := Lib.hid hA
            clear hA
            go_wp2
            go_ret
            exact ⟨_, rfl, by rw [HE.out]; exact Ans.then HD3.out HA.out⟩
          | false =>
            have ho : ¬ outN s.vs (recA s.am b) = 1 := fun e => by rw [(outN_won _ _).1 e] at hw; cases hw
            cases hl : lostA s.vs (recA s.am b) with
            | true =>
              have ho2 := (outN_lost _ _ hw).2 hl
              have HE := Lib.hid (show preSay s b last lt = ({ recS s b with role := 0 }, []) by rw [HP.out, hw, hl]; rfl)
              rw [ho2] at HREC
              clear ho ho2 hw hl
              go_wp2_with fail
              refine (HREC.out _ (by exact HI2.out)).mono ?_
              rintro e w1 ⟨rfl, hd1⟩
              have HD3 := Lib.hid (HD2.out.then hd1)
              have hs6 := HD3.out.im.set 6 (.int .i64 0) (s' := { recS s b with role := 0 }) rfl (by omega) rfl rfl rfl (role_ok HD3.out.im.ok (by omega))
              have HD4 := Lib.hid (HD3.out.then hs6)
              have e6 := HD3.out.im.blk.cells.2.2.2.2.2.2.1
              have f6 := Blk.free HD3.out.im.blk 6
              clear hd1 hs6
              go_wp2
              go_ret
              exact ⟨_, rfl, by rw [HE.out]; exact Ans.emp HD4.out⟩
            | false =>
              have ho2 : ¬ outN s.vs (recA s.am b) = 2 := fun e => by rw [(outN_lost _ _ hw).1 e] at hl; cases hl
              have HE := Lib.hid (show preSay s b last lt = (recS s b, []) by rw [HP.out, hw, hl]; rfl)
              generalize outN s.vs (recA s.am b) = o at *
              have q3 : (o == 1) = false := by simpa using ho
              have q4 : (o == 2) = false := by simpa using ho2
              clear ho ho2 hw hl
              go_wp2_with fail
              refine (HREC.out _ (by exact HI2.out)).mono ?_
              rintro e w1 ⟨rfl, hd1⟩
              have HD3 := Lib.hid (HD2.out.then hd1)
              clear hd1
              go_wp2
              go_ret
              exact ⟨_, rfl, by rw [HE.out]; exact Ans.emp HD3.out⟩
end Go.Proofs.Ytjajgjpkiofhmaa.El
