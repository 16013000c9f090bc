/-
  Layer 10, in the program: takeSay. Conditions: as each theorem states.
-/
import Derived.Test.YtjajgjpkiofhmaaElK2
namespace Go.Proofs.Ytjajgjpkiofhmaa.El
open Go.RowKit Go.Proofs.Ytjajgjpkiofhmaa.Qu Go.Proofs.Ytjajgjpkiofhmaa.Fld
set_option linter.unusedVariables false

theorem below_dn (w : World) (k : Nat) : Below w.heap.size w (w.drew.drewN k) := (below_d1 w).trans (below_dr w.drew k)
set_option maxRecDepth 100000 in
set_option maxHeartbeats 3200000 in
theorem takeSay_any (p : Pl) (s : St) (b : Bal) (w : World) (h : Im w p s) (hbf : okNode b.frm = true) (hbt : okTerm b.term = true) : Calls Try.prog 45 #[.pointer (some ⟨p.g, 0, none⟩), b.val] w fun e w' => e = .returned (.tuple #[]) ∧ Did w w' p (sayS s b) := by
  have hal := alloc_below w (.cells (ballC b) 40)
  have hi := h.below hal
  have hd0 := Did.same h hal
  have hk1 := Blk.new w (ballC b) 40
  have HD0 := Lib.hid hd0
  have HI0 := Lib.hid hi
  have c2 := hi.blk.cells.2.2.1
  have c6 := hi.blk.cells.2.2.2.2.2.2.1
  have b0 := hk1.cell 0 (.int .i64 b.kind) rfl
  have b1 := hk1.cell 1 (.int .i64 b.frm) rfl
  have b2 := hk1.cell 2 (.int .i64 b.to) rfl
  have b3 := hk1.cell 3 (.int .i64 b.term) rfl
  have b4 := hk1.cell 4 (.int .i64 b.idx) rfl
  have b5 := hk1.cell 5 (.int .i64 b.lt) rfl
  have b6 := hk1.cell 6 (.bool b.yes) rfl
  unfold ballC at *
  have HREC := Lib.hid (fun W (hW : Im W p s) => record_any p s b W hW hbf)
  have HSD := Lib.hid (fun W (hW : Im W p s) => stepDown_any p s b.term W hW hbt)
  unfold Bal.val at HREC ⊢
  clear h hal hd0 hk1 hi
  by_cases ht : s.term < b.term
  · have d1 : decide (s.term < b.term) = true := decide_eq_true ht
    have HX := Lib.hid (show sayS s b = down s b.term by unfold sayS; rw [if_pos ht])
    clear ht
    go_enter Try.func45, Try.ntmps45
    go_wp2_with fail
    go_region
    go_wp2_with fail
    refine (HSD.out _ (by first | exact HI0.out.below (below_d1 _) | exact HI0.out)).mono ?_
    rintro e w1 ⟨rfl, hd1⟩
    have HD1 := Lib.hid (HD0.out.then (Did.past (below_d1 _) hd1))
    clear hd1
    go_wp2
    first | go_end0 | ((try simp only [Exit.inBlock, Exit.then]); refine bodyPost_ret (results_none rfl _ _ _) rfl ?_)
    exact ⟨rfl, by rw [HX.out]; exact HD1.out⟩
  have d1 : decide (s.term < b.term) = false := decide_eq_false ht
  by_cases hr : s.role = 2
  · have q1 : (s.role != 2) = false := by simp [hr]
    by_cases hb : b.term = s.term
    · have q2 : (b.term != s.term) = false := by simp [hb]
      have HX := Lib.hid (show sayS s b = if wonA s.vs (recA s.am b) then leadS (recS s b) else if lostA s.vs (recA s.am b) then { recS s b with role := 0 } else recS s b by unfold sayS; rw [if_neg ht, if_neg (by rintro (h0 | h0); exact h0 hr; exact h0 hb)])
      clear ht hr hb
      cases hw : wonA s.vs (recA s.am b) with
      | true =>
        have ho := (outN_won _ _).2 hw
        have HX2 := Lib.hid (show sayS s b = leadS (recS s b) by rw [HX.out, if_pos hw])
        rw [ho] at HREC
        clear ho hw
        go_enter Try.func45, Try.ntmps45
        go_wp2_with fail
        go_region
        go_wp2_with fail
        go_quiet (fail)
        go_wp2_with fail
        refine (HREC.out _ (by first | exact HI0.out.below ((below_d1 _).trans (below_dr _ _)) | exact HI0.out.below (below_dr _ _) | exact HI0.out.below (below_d1 _))).mono ?_
        rintro e w1 ⟨rfl, hd1⟩
        have HD1 := Lib.hid (HD0.out.then (Did.past (by first | exact (below_d1 _).trans (below_dr _ _) | exact below_dr _ _ | exact below_d1 _) hd1))
        clear hd1
        go_wp2_with fail
        refine (lead_any p _ _ HD1.out.im).mono ?_
        rintro e w2 ⟨rfl, hd2⟩
        have HD2 := Lib.hid (HD1.out.then hd2)
        clear hd2
        go_wp2
        first | go_end0 | ((try simp only [Exit.inBlock, Exit.then]); refine bodyPost_ret (results_none rfl _ _ _) rfl ?_)
        exact ⟨rfl, by rw [HX2.out]; exact HD2.out⟩
      | false =>
        have ho : ¬ outN s.vs (recA s.am b) = 1 := fun e => by rw [(outN_won _ _).1 e] at hw; cases hw
        cases hl : lostA s.vs (recA s.am b) with
        | true =>
          have ho2 := (outN_lost _ _ hw).2 hl
          have HX2 := Lib.hid (show sayS s b = { recS s b with role := 0 } by rw [HX.out, if_neg (by rw [hw]; simp), if_pos hl])
          rw [ho2] at HREC
          clear ho ho2 hw hl
          go_enter Try.func45, Try.ntmps45
          go_wp2_with fail
          go_region
          go_wp2_with fail
          go_quiet (fail)
          go_wp2_with fail
          refine (HREC.out _ (by first | exact HI0.out.below ((below_d1 _).trans (below_dr _ _)) | exact HI0.out.below (below_dr _ _) | exact HI0.out.below (below_d1 _))).mono ?_
          rintro e w1 ⟨rfl, hd1⟩
          have HD1 := Lib.hid (HD0.out.then (Did.past (by first | exact (below_d1 _).trans (below_dr _ _) | exact below_dr _ _ | exact below_d1 _) hd1))
          have hs6 := HD1.out.im.set 6 (.int .i64 0) (s' := { recS s b with role := 0 }) rfl (by omega) rfl rfl rfl (role_ok HD1.out.im.ok (by omega))
          have HD2 := Lib.hid (HD1.out.then hs6)
          have e6 := HD1.out.im.blk.cells.2.2.2.2.2.2.1
          have f6 := Blk.free HD1.out.im.blk 6
          clear hd1 hs6
          go_wp2
          first | go_end0 | ((try simp only [Exit.inBlock, Exit.then]); refine bodyPost_ret (results_none rfl _ _ _) rfl ?_)
          exact ⟨rfl, by rw [HX2.out]; exact HD2.out⟩
        | false =>
          have ho2 : ¬ outN s.vs (recA s.am b) = 2 := fun e => by rw [(outN_lost _ _ hw).1 e] at hl; cases hl
          have HX2 := Lib.hid (show sayS s b = recS s b by rw [HX.out, if_neg (by rw [hw]; simp), if_neg (by rw [hl]; simp)])
          generalize outN s.vs (recA s.am b) = o at *
          have q3 : (o == 1) = false := by simpa using ho
          have q4 : (o == 2) = false := by simpa using ho2
          clear ho ho2 hw hl
          go_enter Try.func45, Try.ntmps45
          go_wp2_with fail
          go_region
          go_wp2_with fail
          go_quiet (fail)
          go_wp2_with fail
          refine (HREC.out _ (by first | exact HI0.out.below ((below_d1 _).trans (below_dr _ _)) | exact HI0.out.below (below_dr _ _) | exact HI0.out.below (below_d1 _))).mono ?_
          rintro e w1 ⟨rfl, hd1⟩
          have HD1 := Lib.hid (HD0.out.then (Did.past (by first | exact (below_d1 _).trans (below_dr _ _) | exact below_dr _ _ | exact below_d1 _) hd1))
          clear hd1
          go_wp2
          first | go_end0 | ((try simp only [Exit.inBlock, Exit.then]); refine bodyPost_ret (results_none rfl _ _ _) rfl ?_)
          exact ⟨rfl, by rw [HX2.out]; exact HD1.out⟩
    · have q2 : (b.term != s.term) = true := by simp [hb]
      have HX := Lib.hid (show sayS s b = s by unfold sayS; rw [if_neg ht, if_pos (.inr hb)])
      clear ht hr hb
      go_enter Try.func45, Try.ntmps45
      go_wp2_with fail
      go_region
      go_wp2_with fail
      go_quiet (fail)
      go_wp2
      first | go_end0 | ((try simp only [Exit.inBlock, Exit.then]); refine bodyPost_ret (results_none rfl _ _ _) rfl ?_)
      exact ⟨rfl, by rw [HX.out]; exact HD0.out.to (below_dn _ _)⟩
  · have q1 : (s.role != 2) = true := by simp [hr]
    have HX := Lib.hid (show sayS s b = s by unfold sayS; rw [if_neg ht, if_pos (.inl hr)])
    clear ht hr
    go_enter Try.func45, Try.ntmps45
    go_wp2_with fail
    go_region
    go_wp2_with fail
    go_quiet (fail)
    go_wp2
    first | go_end0 | ((try simp only [Exit.inBlock, Exit.then]); refine bodyPost_ret (results_none rfl _ _ _) rfl ?_)
    exact ⟨rfl, by rw [HX.out]; exact HD0.out.to (below_dn _ _)⟩
end Go.Proofs.Ytjajgjpkiofhmaa.El
