/-
  Layer 10, in the program: Take. Conditions: as each theorem states.
-/
import Derived.Test.YtjajgjpkiofhmaaElK3
import Derived.Test.YtjajgjpkiofhmaaElK4
import Derived.Deep.CutRange
namespace Go.Proofs.Ytjajgjpkiofhmaa.El
open Go.RowKit Go.Proofs.Ytjajgjpkiofhmaa.Qu Go.Proofs.Ytjajgjpkiofhmaa.Fld
set_option linter.unusedVariables false

theorem other_quiet (p : Pl) (s : St) (n : Int) (w : World) (k : Nat) (h : Im w p s) : Calls Try.prog 40 #[.pointer (some ⟨p.g, 0, none⟩), .int .i64 n] (w.drewN k) fun e w'' => e = .returned (.bool (other s n)) ∧ ∃ m, w'' = w.drewN m :=
  (isOther_any p s n (w.drewN k) (h.below (below_dr w k))).mono fun _ _ ⟨he, hw⟩ => ⟨he, k, hw.symm⟩
theorem term_quiet (n : Int) (w : World) (k : Nat) : Calls Try.prog 41 #[.int .i64 n] (w.drewN k) fun e w'' => e = .returned (.bool (okTerm n)) ∧ ∃ m, w'' = w.drewN m :=
  (validTerm_any n (w.drewN k)).mono fun _ _ ⟨he, hw⟩ => ⟨he, k, hw.symm⟩
set_option maxRecDepth 100000 in
set_option maxHeartbeats 3200000 in
theorem take_any (p : Pl) (s : St) (b : Bal) (last lt : Int) (w : World) (h : Im w p s) : Calls Try.prog 15 #[.pointer (some ⟨p.g, 0, none⟩), b.val, .int .i64 last, .int .i64 lt] w fun e w' => ∃ v, e = .returned v ∧ Ans w w' p (take s b last lt).1 v (take s b last lt).2 := by
  have hal := alloc_below w (.cells (ballC b) 40)
  have hi := h.below hal
  have hd0 := Did.same h hal
  have hk1 := Blk.new w (ballC b) 40
  have HD0 := Lib.hid hd0
  have HI0 := Lib.hid hi
  have HK0 := Lib.hid hk1
  have c0 := hi.blk.cells.1
  have b0 := hk1.cell 0 (.int .i64 b.kind) rfl
  have b1 := hk1.cell 1 (.int .i64 b.frm) rfl
  have b2 := hk1.cell 2 (.int .i64 b.to) rfl
  have b3 := hk1.cell 3 (.int .i64 b.term) rfl
  have b4 := hk1.cell 4 (.int .i64 b.idx) rfl
  have b5 := hk1.cell 5 (.int .i64 b.lt) rfl
  have b6 := hk1.cell 6 (.bool b.yes) rfl
  have HIO := Lib.hid (fun k => other_quiet p s b.frm _ k hi)
  have HVT := Lib.hid (fun W k => term_quiet b.term W k)
  obtain ⟨x1, hx1⟩ : ∃ x, takes s b = x := ⟨_, rfl⟩
  have HX1 := Lib.hid hx1
  have HF := Lib.hid (fun (e : x1 = true) => ((takes_iff s b).1 (hx1.trans e)).2)
  have HP := Lib.hid (show take s b last lt = if x1 = false then (s, []) else if b.kind = 1 then (s, [preB s b last lt]) else if b.kind = 2 then preSay s b last lt else if b.kind = 3 then askS s b last lt else if b.kind = 4 then (sayS s b, []) else (s, []) by rw [← hx1]; rfl)
  unfold ballC at *
  unfold Bal.val
  clear h hal hi hd0 hk1 hx1
  go_enter Try.func15, Try.ntmps15
  go_upto_region 1 with fail
  generalize hwx : (w.alloc (.cells #[.int .i64 b.kind, .int .i64 b.frm, .int .i64 b.to, .int .i64 b.term, .int .i64 b.idx, .int .i64 b.lt, .bool b.yes] 40)) = wq at *
  have HWX := Lib.hid hwx
  clear hwx
  go_cut [29] from 10 to 28 (fun c wx => c = .bool (!x1) ∧ Below wq.heap.size wq wx)
  case first =>
    have hx1 := HX1.out
    by_cases ht : b.to = s.id
    · have q1 : (b.to != s.id) = false := by simp [ht]
      cases ho : other s b.frm with
      | false =>
        rw [ho] at HIO
        have HE := Lib.hid (show x1 = false by rw [← hx1]; unfold takes; rw [ho]; simp)
        clear hx1 ht ho
        go_quiet ((go_at_call 40; exact HIO.out _))
        go_wp2_with fail
        go_meet
        exact ⟨by rw [HE.out]; rfl, by simpa using below_dr _ _⟩
      | true =>
        rw [ho] at HIO
        have HE := Lib.hid (show x1 = okTerm b.term by rw [← hx1]; unfold takes; rw [ho, ht]; simp)
        clear hx1 ht ho
        generalize okTerm b.term = ok at *
        cases ok with
        | true =>
          go_quiet ((first | (go_at_call 40; exact HIO.out _) | (go_at_call 41; exact HVT.out _ _)))
          go_wp2_with fail
          go_meet
          exact ⟨by rw [HE.out]; rfl, by simpa using below_dr _ _⟩
        | false =>
          go_quiet ((first | (go_at_call 40; exact HIO.out _) | (go_at_call 41; exact HVT.out _ _)))
          go_wp2_with fail
          go_meet
          exact ⟨by rw [HE.out]; rfl, by simpa using below_dr _ _⟩
    · have q1 : (b.to != s.id) = true := by simpa using ht
      have HE := Lib.hid (show x1 = false by rw [← hx1]; unfold takes; rw [show decide (b.to = s.id) = false by simpa using ht]; rfl)
      clear hx1 ht
      go_quiet (fail)
      go_wp2_with fail
      go_meet
      exact ⟨by rw [HE.out]; rfl, by simpa using below_dr _ _⟩
  case rest =>
    obtain ⟨rfl, hbw⟩ := hcut
    have HB1 := Lib.hid hbw
    clear hbw c0 b0 b1 b2 b3 b4 b5 b6
    obtain ⟨wa, rfl⟩ : ∃ wa, wa = wc := ⟨_, rfl⟩
    cases x1 with
    | false =>
      have HE := Lib.hid (show take s b last lt = (s, []) by rw [HP.out]; rfl)
      have HD1 := Lib.hid (HD0.out.to HB1.out)
      go_wp2
      go_ret
      exact ⟨_, rfl, by rw [HE.out]; exact Ans.emp HD1.out⟩
    | true =>
      obtain ⟨⟨hf, _⟩, hT⟩ := HF.out rfl
      have hb2 := HB1.out.trans ((alloc_below wa (.cells #[.int .i64 last, .int .i64 lt] 80)).mono HB1.out.size)
      have hk2 := Blk.new wa #[.int .i64 last, .int .i64 lt] 80
      have hk := HK0.out.below hb2
      have HI2 := Lib.hid (HI0.out.below hb2)
      have HD2 := Lib.hid (HD0.out.to hb2)
      have HPre := Lib.hid (takePre_any p s b last lt _ HI2.out)
      have HPS := Lib.hid (takePreSay_any p s b last lt _ HI2.out hf hT)
      have HAs := Lib.hid (takeAsk_any p s b last lt _ HI2.out hf hT)
      have HSy := Lib.hid (takeSay_any p s b _ HI2.out hf hT)
      unfold entV Bal.val at HPre HPS HAs
      unfold Bal.val at HSy
      have b0 := hk.cell 0 (.int .i64 b.kind) rfl
      have b1 := hk.cell 1 (.int .i64 b.frm) rfl
      have b2 := hk.cell 2 (.int .i64 b.to) rfl
      have b3 := hk.cell 3 (.int .i64 b.term) rfl
      have b4 := hk.cell 4 (.int .i64 b.idx) rfl
      have b5 := hk.cell 5 (.int .i64 b.lt) rfl
      have b6 := hk.cell 6 (.bool b.yes) rfl
      have o0 := hk2.cell 0 (.int .i64 last) rfl
      have o1 := hk2.cell 1 (.int .i64 lt) rfl
      clear hk hk2 hb2 hf hT
      by_cases hk1 : b.kind = 1
      · have HE := Lib.hid (show take s b last lt = (s, [preB s b last lt]) by rw [HP.out, if_neg (by simp)]; simp [hk1])
        have q1 : (b.kind == 1) = true := by simp [hk1]
        clear hk1
        go_wp2_with fail
        refine HPre.out.mono ?_
        rintro e w2 ⟨v2, rfl, hA⟩
        have HA := Lib.hid hA
        clear hA
        go_wp2
        go_ret
        exact ⟨_, rfl, by rw [HE.out]; exact Ans.then HD2.out HA.out⟩
      by_cases hk2 : b.kind = 2
      · have HE := Lib.hid (show take s b last lt = preSay s b last lt by rw [HP.out, if_neg (by simp)]; simp [hk2])
        have q1 : (b.kind == 1) = false := by simp [hk2]
        have q2 : (b.kind == 2) = true := by simp [hk2]
        clear hk2 hk1
        go_wp2_with fail
        refine HPS.out.mono ?_
        rintro e w2 ⟨v2, rfl, hA⟩
        have HA := Lib.hid hA
        clear hA
        go_wp2
        go_ret
        exact ⟨_, rfl, by rw [HE.out]; exact Ans.then HD2.out HA.out⟩
      by_cases hk3 : b.kind = 3
      · have HE := Lib.hid (show take s b last lt = askS s b last lt by rw [HP.out, if_neg (by simp)]; simp [hk3])
        have q1 : (b.kind == 1) = false := by simp [hk3]
        have q2 : (b.kind == 2) = false := by simp [hk3]
        have q3 : (b.kind == 3) = true := by simp [hk3]
        clear hk3 hk1 hk2
        go_wp2_with fail
        refine HAs.out.mono ?_
        rintro e w2 ⟨v2, rfl, hA⟩
        have HA := Lib.hid hA
        clear hA
        go_wp2
        go_ret
        exact ⟨_, rfl, by rw [HE.out]; exact Ans.then HD2.out HA.out⟩
      have q1 : (b.kind == 1) = false := by simpa using hk1
      have q2 : (b.kind == 2) = false := by simpa using hk2
      have q3 : (b.kind == 3) = false := by simpa using hk3
      by_cases hk4 : b.kind = 4
      · have HE := Lib.hid (show take s b last lt = (sayS s b, []) by rw [HP.out, if_neg (by simp)]; simp [hk4])
        have q4 : (b.kind == 4) = true := by simp [hk4]
        clear hk1 hk2 hk3 hk4
        go_wp2_with fail
        refine HSy.out.mono ?_
        rintro e w2 ⟨rfl, hd⟩
        have HD3 := Lib.hid (HD2.out.then hd)
        clear hd
        go_wp2
        go_ret
        exact ⟨_, rfl, by rw [HE.out]; exact Ans.emp HD3.out⟩
      · have HE := Lib.hid (show take s b last lt = (s, []) by rw [HP.out, if_neg (by simp), if_neg hk1, if_neg hk2, if_neg hk3, if_neg hk4])
        have q4 : (b.kind == 4) = false := by simpa using hk4
        clear hk1 hk2 hk3 hk4
        go_wp2
        go_ret
        exact ⟨_, rfl, by rw [HE.out]; exact Ans.emp HD2.out⟩
end Go.Proofs.Ytjajgjpkiofhmaa.El
