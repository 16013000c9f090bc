/-
  Layer 10, in the program: Take. Conditions: as each theorem states.
-/
import Derived.Test.YtjajgjpkiofhmaaElR3
import Derived.Deep.CutRange
namespace Go.Proofs.Ytjajgjpkiofhmaa.El
open Go.RowKit Go.Proofs.Ytjajgjpkiofhmaa.Qu Go.Proofs.Ytjajgjpkiofhmaa.Fld
set_option linter.unusedVariables false

theorem RA.one {lo N : Nat} {w W : World} {q q' : Ql} {s : St} (h : RD lo N w W q q' s) (g : q'.g = q.g) (x : Bal) : RA lo N w (W.alloc (.cells (ballC x) 40)) q q' s (.slice (some ⟨W.heap.size, 0, none⟩) 1 1) [x] := RA.after h g (ownB_one W W (Below.refl _ _) x)
theorem RA.oneAt {lo N : Nat} {w W : World} {q q' : Ql} {s : St} (h : RD lo N w W q q' s) (g : q'.g = q.g) (x : Bal) (n : Nat) (hn : W.heap.size = n) : RA lo N w (W.alloc (.cells (ballC x) 40)) q q' s (.slice (some ⟨n, 0, none⟩) 1 1) [x] := hn ▸ RA.one h g x
theorem RA.to {lo N : Nat} {w w1 w' : World} {q q' : Ql} {s' : St} {v : Value} {out : List Bal} (h : RA lo N w w1 q q' s' v out) (hb : Below w1.heap.size w1 w') : RA lo N w w' q q' s' v out := ⟨h.did.to hb, row_of h.out fun i hi => hb.block i (row_lo h.out i hi).2, h.g⟩
set_option maxRecDepth 100000 in
set_option maxHeartbeats 6400000 in
theorem rtake_any {lo N : Nat} (q : Ql) (s : St) (b : Bal) (last lt : Int) (w : World) (h : Rm lo N w q s) (hN : 1 ≤ N) (hN2 : N ≤ 100000) : Calls Try.prog 16 #[.pointer (some ⟨q.g, 0, none⟩), b.val, .int .i64 last, .int .i64 lt] w fun e w' => ∃ v q', e = .returned v ∧ RA lo (N + 1) w w' q q' (take s b last lt).1 v (take s b last lt).2 := by
  have hal := alloc_below w (.cells (ballC b) 40)
  have hi := h.below hal
  have hd0 := RD.same h hal
  have hk1 := Blk.new w (ballC b) 40
  have hn1 : w.heap.size ∉ q.foot := fun hm => by have := (h.rb.flt _ hm).2; omega
  have HNF := Lib.hid hn1
  have HK0 := Lib.hid hk1
  have HD0 := Lib.hid hd0
  have HI0 := Lib.hid hi
  have HOK := Lib.hid h.rb.ok
  have c0 := hi.rb.cells.1
  have b0 := hk1.cell 0 (.int .i64 b.kind) rfl
  have b1 := hk1.cell 1 (.int .i64 b.frm) rfl
  have b2 := hk1.cell 2 (.int .i64 b.to) rfl
  have b3 := hk1.cell 3 (.int .i64 b.term) rfl
  have b4 := hk1.cell 4 (.int .i64 b.idx) rfl
  have b5 := hk1.cell 5 (.int .i64 b.lt) rfl
  have b6 := hk1.cell 6 (.bool b.yes) rfl
  obtain ⟨x1, hx1⟩ : ∃ x, takes s b = x := ⟨_, rfl⟩
  have HX1 := Lib.hid hx1
  have HF := Lib.hid (fun (e : x1 = true) => ((takes_iff s b).1 (hx1.trans e)).2)
  have HP := Lib.hid (show take s b last lt = if x1 = false then (s, []) else if b.kind = 1 then (s, [preB s b last lt]) else if b.kind = 2 then preSay s b last lt else if b.kind = 3 then askS s b last lt else if b.kind = 4 then (sayS s b, []) else (s, []) by rw [← hx1]; rfl)
  have HXE := Lib.hid (show x1 = (decide (b.to = s.id) && ((decide (1 ≤ b.frm) && decide (b.frm ≤ 15)) && decide (b.frm ≠ s.id) && (decide (0 ≤ b.term) && decide (b.term ≤ MX)))) by rw [← hx1]; rfl)
  obtain ⟨nw, hnw⟩ : ∃ x, newer last lt b = x := ⟨_, rfl⟩
  have HNW := Lib.hid hnw
  unfold ballC at *
  unfold Bal.val
  clear h hal hi hd0 hk1 hn1 hx1 hnw
  go_enter Try.func16, Try.ntmps16
  go_upto_region 1 with fail
  generalize hwx : (w.alloc (.cells #[.int .i64 b.kind, .int .i64 b.frm, .int .i64 b.to, .int .i64 b.term, .int .i64 b.idx, .int .i64 b.lt, .bool b.yes] 40)) = wq at *
  have HWX := Lib.hid hwx
  clear hwx
  go_cut [50] from 15 to 49 (fun c wx => c = .bool (!x1) ∧ Below wq.heap.size wq wx)
  case first =>
    have hMX : MX = 1099511627776 := rfl
    by_cases a0 : b.to ≠ s.id
    · have q0 : (b.to != s.id) = true := by simp [a0]
      have HE := Lib.hid (show x1 = false by rw [HXE.out]; simp; omega)
      clear a0 hMX
      go_quiet (fail)
      go_wp2_with fail
      go_meet
      exact ⟨by rw [HE.out]; rfl, by simpa using below_dr _ _⟩
    have q0 : (b.to != s.id) = false := by simp; omega
    by_cases a1 : b.frm < 1
    · have q1 : decide (b.frm < 1) = true := by simp [a1]
      have HE := Lib.hid (show x1 = false by rw [HXE.out]; simp; omega)
      clear a0 a1 hMX
      go_quiet (fail)
      go_wp2_with fail
      go_meet
      exact ⟨by rw [HE.out]; rfl, by simpa using below_dr _ _⟩
    have q1 : decide (b.frm < 1) = false := by simp; omega
    by_cases a2 : 15 < b.frm
    · have q2 : decide (15 < b.frm) = true := by simp [a2]
      have HE := Lib.hid (show x1 = false by rw [HXE.out]; simp; omega)
      clear a0 a1 a2 hMX
      go_quiet (fail)
      go_wp2_with fail
      go_meet
      exact ⟨by rw [HE.out]; rfl, by simpa using below_dr _ _⟩
    have q2 : decide (15 < b.frm) = false := by simp; omega
    by_cases a3 : b.frm = s.id
    · have q3 : (b.frm == s.id) = true := by simp [a3]
      have HE := Lib.hid (show x1 = false by rw [HXE.out]; simp; omega)
      clear a0 a1 a2 a3 hMX
      go_quiet (fail)
      go_wp2_with fail
      go_meet
      exact ⟨by rw [HE.out]; rfl, by simpa using below_dr _ _⟩
    have q3 : (b.frm == s.id) = false := by simp; omega
    by_cases a4 : b.term < 0
    · have q4 : decide (b.term < 0) = true := by simp [a4]
      have HE := Lib.hid (show x1 = false by rw [HXE.out]; simp; omega)
      clear a0 a1 a2 a3 a4 hMX
      go_quiet (fail)
      go_wp2_with fail
      go_meet
      exact ⟨by rw [HE.out]; rfl, by simpa using below_dr _ _⟩
    have q4 : decide (b.term < 0) = false := by simp; omega
    by_cases a5 : 1099511627776 < b.term
    · have q5 : decide (1099511627776 < b.term) = true := by simp [a5]
      have HE := Lib.hid (show x1 = false by rw [HXE.out]; simp; omega)
      clear a0 a1 a2 a3 a4 a5 hMX
      go_quiet (fail)
      go_wp2_with fail
      go_meet
      exact ⟨by rw [HE.out]; rfl, by simpa using below_dr _ _⟩
    have q5 : decide (1099511627776 < b.term) = false := by simp; omega
    have HE := Lib.hid (show x1 = true by rw [HXE.out]; simp; omega)
    clear a0 a1 a2 a3 a4 a5 hMX
    go_quiet (fail)
    go_wp2_with fail
    go_meet
    exact ⟨by rw [HE.out]; rfl, by simpa using below_dr _ _⟩
  case rest =>
    obtain ⟨rfl, hbw⟩ := hcut
    obtain ⟨wa, rfl⟩ : ∃ wa, wa = wc := ⟨_, rfl⟩
    have HI1 := Lib.hid (HI0.out.below hbw)
    have HD1 := Lib.hid (HD0.out.to hbw)
    have HK1 := Lib.hid (HK0.out.below hbw)
    have HNQ := HNF
    have HNR := Lib.hid HNF.out
    clear hbw c0 b0 b1 b2 b3 b4 b5 b6
    cases x1 with
    | false =>
      have HE := Lib.hid (show take s b last lt = (s, []) by rw [HP.out]; rfl)
      go_wp2
      go_ret
      first | exact ⟨_, q, rfl, by rw [HE.out]; exact (RA.emp HD1.out rfl).mono (Nat.le_succ _)⟩ | exact ⟨_, rfl, q, by rw [HE.out]; exact (RA.emp HD1.out rfl).mono (Nat.le_succ _)⟩
    | true =>
      obtain ⟨⟨hbf, _⟩, hbt⟩ := HF.out rfl
      have HBF := Lib.hid hbf
      have HBT := Lib.hid hbt
      have HPR := Lib.hid (rpreSay_any q s b last lt wa HI1.out hN hN2 hbf hbt)
      unfold Bal.val at HPR
      have b0 := HK1.out.cell 0 (.int .i64 b.kind) rfl
      have b1 := HK1.out.cell 1 (.int .i64 b.frm) rfl
      have b2 := HK1.out.cell 2 (.int .i64 b.to) rfl
      have b3 := HK1.out.cell 3 (.int .i64 b.term) rfl
      have b4 := HK1.out.cell 4 (.int .i64 b.idx) rfl
      have b5 := HK1.out.cell 5 (.int .i64 b.lt) rfl
      have b6 := HK1.out.cell 6 (.bool b.yes) rfl
      clear hbf hbt
      go_upto_region 3 with fail
      go_cut [9] from 51 to 66 (fun c wx => c = .bool (!nw) ∧ wx = wa)
      case first =>
        have hnw := HNW.out
        by_cases a1 : lt < b.lt
        · have d1 : decide (lt < b.lt) = true := decide_eq_true a1
          have HE := Lib.hid (show nw = false by rw [← hnw]; unfold newer; simp; omega)
          clear a1 hnw
          go_wp2_with fail
          go_meet
          exact ⟨by rw [HE.out]; rfl, rfl⟩
        have d1 : decide (lt < b.lt) = false := decide_eq_false a1
        by_cases a2 : b.lt = lt
        · have q2 : (b.lt == lt) = true := by simp [a2]
          by_cases a3 : last ≤ b.idx
          · have d3 : decide (last ≤ b.idx) = true := decide_eq_true a3
            have HE := Lib.hid (show nw = false by rw [← hnw]; unfold newer; simp; omega)
            clear a1 a2 a3 hnw
            go_wp2_with fail
            go_meet
            exact ⟨by rw [HE.out]; rfl, rfl⟩
          · have d3 : decide (last ≤ b.idx) = false := decide_eq_false a3
            have HE := Lib.hid (show nw = true by rw [← hnw]; unfold newer; simp; omega)
            clear a1 a2 a3 hnw
            go_wp2_with fail
            go_meet
            exact ⟨by rw [HE.out]; rfl, rfl⟩
        · have q2 : (b.lt == lt) = false := by simpa using a2
          have HE := Lib.hid (show nw = true by rw [← hnw]; unfold newer; simp; omega)
          clear a1 a2 hnw
          go_wp2_with fail
          go_meet
          exact ⟨by rw [HE.out]; rfl, rfl⟩
      case rest =>
        obtain ⟨rfl, rfl⟩ := hcut
        obtain ⟨wa, rfl⟩ : ∃ wa, wa = wc := ⟨_, rfl⟩
        by_cases hk1 : b.kind = 1
        · have HE := Lib.hid (show take s b last lt = (s, [preB s b last lt]) by rw [HP.out, if_neg (by simp), if_pos hk1])
          have p1 : (b.kind == 1) = true := by simp [hk1]
          obtain ⟨gr, hgr⟩ : ∃ x, preY s b last lt = x := ⟨_, rfl⟩
          have HGE := Lib.hid (show gr = ((decide (s.lead = 0) || decide (s.pat ≤ s.wait)) && (decide (s.term < b.term) && !nw)) by rw [← hgr, ← HNW.out]; rfl)
          have HPB := Lib.hid (show preB s b last lt = ⟨2, s.id, b.frm, if gr then b.term else s.term, 0, 0, gr⟩ by rw [← hgr]; rfl)
          obtain ⟨c0, c1, _, _, _, c5, _, c7, c8, _, _, _⟩ := HI1.out.rb.cells
          clear hk1 hgr
          go_upto_region 6 with fail
          go_cut [10] from 71 to 99 (fun c wx => c = .bool gr ∧ Below wa.heap.size wa wx)
          case first =>
            by_cases a1 : s.term < b.term
            · have d1 : decide (s.term < b.term) = true := decide_eq_true a1
              cases nw with
              | true =>
                have HG2 := Lib.hid (show gr = false by rw [HGE.out]; simp)
                clear a1
                go_quiet (fail)
                go_wp2_with fail
                go_meet
                exact ⟨by rw [HG2.out], by simpa using below_dr _ _⟩
              | false =>
                by_cases a2 : s.lead = 0
                · have q2 : (s.lead == 0) = true := by simp [a2]
                  have HG2 := Lib.hid (show gr = true by rw [HGE.out]; simp [a1, a2])
                  clear a1 a2
                  go_quiet (fail)
                  go_wp2_with fail
                  go_meet
                  exact ⟨by rw [HG2.out], by simpa using below_dr _ _⟩
                · have q2 : (s.lead == 0) = false := by simpa using a2
                  by_cases a3 : s.pat ≤ s.wait
                  · have d3 : decide (s.pat ≤ s.wait) = true := decide_eq_true a3
                    have HG2 := Lib.hid (show gr = true by rw [HGE.out]; simp [a1, a3])
                    clear a1 a2 a3
                    go_quiet (fail)
                    go_wp2_with fail
                    go_meet
                    exact ⟨by rw [HG2.out], by simpa using below_dr _ _⟩
                  · have d3 : decide (s.pat ≤ s.wait) = false := decide_eq_false a3
                    have HG2 := Lib.hid (show gr = false by rw [HGE.out]; simp [a1, a2, a3])
                    clear a1 a2 a3
                    go_quiet (fail)
                    go_wp2_with fail
                    go_meet
                    exact ⟨by rw [HG2.out], by simpa using below_dr _ _⟩
            · have d1 : decide (s.term < b.term) = false := decide_eq_false a1
              have HG2 := Lib.hid (show gr = false by rw [HGE.out, d1]; simp)
              clear a1
              go_quiet (fail)
              go_wp2_with fail
              go_meet
              exact ⟨by rw [HG2.out], by simpa using below_dr _ _⟩
          case rest =>
            obtain ⟨rfl, hbw⟩ := hcut
            obtain ⟨wb, rfl⟩ : ∃ wb, wb = wc := ⟨_, rfl⟩
            have HD2 := Lib.hid (HD1.out.to hbw)
            have hk2 := HK1.out.below hbw
            obtain ⟨c0, c1, _, _, _, _, _, _, _, _, _, _⟩ := (HI1.out.below hbw).rb.cells
            have b1 := hk2.cell 1 (.int .i64 b.frm) rfl
            have b3 := hk2.cell 3 (.int .i64 b.term) rfl
            clear hbw hk2 b0 b2 b4 b5 b6 c5 c7 c8
            cases gr with
            | true =>
              have HX := Lib.hid (show take s b last lt = (s, [⟨2, s.id, b.frm, b.term, 0, 0, true⟩]) by rw [HE.out, HPB.out]; rfl)
              go_wp2_with fail
              go_region
              go_wp2
              go_ret
              first | exact ⟨_, q, rfl, by rw [HX.out]; exact (RA.one (HD2.out.to (below_d1 wb)) rfl ⟨2, s.id, b.frm, b.term, 0, 0, true⟩).mono (Nat.le_succ _)⟩ | exact ⟨_, rfl, q, by rw [HX.out]; exact (RA.one (HD2.out.to (below_d1 wb)) rfl ⟨2, s.id, b.frm, b.term, 0, 0, true⟩).mono (Nat.le_succ _)⟩
            | false =>
              have HX := Lib.hid (show take s b last lt = (s, [⟨2, s.id, b.frm, s.term, 0, 0, false⟩]) by rw [HE.out, HPB.out]; rfl)
              go_wp2_with fail
              go_region
              go_wp2
              go_ret
              first | exact ⟨_, q, rfl, by rw [HX.out]; exact (RA.one (HD2.out.to (below_d1 wb)) rfl ⟨2, s.id, b.frm, s.term, 0, 0, false⟩).mono (Nat.le_succ _)⟩ | exact ⟨_, rfl, q, by rw [HX.out]; exact (RA.one (HD2.out.to (below_d1 wb)) rfl ⟨2, s.id, b.frm, s.term, 0, 0, false⟩).mono (Nat.le_succ _)⟩
        have p1 : (b.kind == 1) = false := by simpa using hk1
        by_cases hk2 : b.kind = 2
        · have HE := Lib.hid (show take s b last lt = preSay s b last lt by rw [HP.out, if_neg (by simp), if_neg hk1, if_pos hk2])
          have p2 : (b.kind == 2) = true := by simp [hk2]
          clear hk1 hk2
          go_wp2_with fail
          refine HPR.out.mono ?_
          rintro e w2 ⟨v2, q2, rfl, hA⟩
          have HA := Lib.hid hA
          clear hA
          go_wp2
          go_ret
          first | exact ⟨_, q2, rfl, by rw [HE.out]; exact RA.then HD1.out rfl HA.out⟩ | exact ⟨_, rfl, q2, by rw [HE.out]; exact RA.then HD1.out rfl HA.out⟩
        have p2 : (b.kind == 2) = false := by simpa using hk2
        by_cases hk3 : b.kind = 3
        · have HE := Lib.hid (show take s b last lt = askS s b last lt by rw [HP.out, if_neg (by simp), if_neg hk1, if_neg hk2, if_pos hk3])
          have p3 : (b.kind == 3) = true := by simp [hk3]
          clear hk1 hk2 hk3
          have HSD := Lib.hid (fun W (hW : Rm lo N W q s) => rdown_any q s b.term W hW HBT.out)
          obtain ⟨s1, hs1⟩ : ∃ s1, dn s b = s1 := ⟨_, rfl⟩
          have HS1 := Lib.hid hs1
          have HID := Lib.hid (show s1.id = s.id by rw [← hs1]; exact (dn_same s b).1)
          obtain ⟨gr, hgr⟩ : ∃ gr, ((decide (s1.vote = 0) || decide (s1.vote = b.frm)) && (decide (b.term = s1.term) && !nw)) = gr := ⟨_, rfl⟩
          have HGE := Lib.hid hgr
          have HY := Lib.hid (show askS s b last lt = if gr then (grant s1 b, [⟨4, s1.id, b.frm, s1.term, 0, 0, true⟩]) else (s1, [⟨4, s1.id, b.frm, s1.term, 0, 0, false⟩]) by
            unfold askS
            rw [hs1, show askY s1 b last lt = gr by rw [← hgr, ← HNW.out]; rfl, HID.out])
          obtain ⟨dc, hdc⟩ : ∃ c, decide (s.term < b.term) = c := ⟨_, rfl⟩
          have c1 := HI1.out.rb.cells.2.1
          clear hs1 hgr
          go_wp2_with fail
          go_region
          go_upto_if 134 with fail
          go_cut [] from 127 to 138 (fun wx => ∃ q1, RD lo N wa wx q q1 s1 ∧ q1.g = q.g)
          case first =>
            cases dc with
            | true =>
              have ht := of_decide_eq_true hdc
              have HDE := Lib.hid (show down s b.term = s1 by rw [← HS1.out]; unfold dn; rw [if_pos ht])
              clear ht hdc
              go_wp2_with fail
              refine (HSD.out _ (by exact HI1.out.below (below_d1 _))).mono ?_
              rintro e w1 ⟨rfl, q1, hd1, hg1⟩
              have HD2 := Lib.hid (RD.past (below_d1 _) hd1)
              have HG := Lib.hid hg1
              clear hd1 hg1
              rw [HDE.out] at HD2
              go_wp2_with fail
              go_meet
              exact ⟨q1, HD2.out, HG.out⟩
            | false =>
              have ht := of_decide_eq_false hdc
              have HDE := Lib.hid (show s = s1 by rw [← HS1.out]; unfold dn; rw [if_neg ht])
              have HD2 := Lib.hid (show RD lo N wa (World.drew wa) q q s1 from HDE.out ▸ RD.same HI1.out (below_d1 wa))
              clear ht hdc
              go_wp2_with fail
              go_meet
              exact ⟨q, HD2.out, rfl⟩
          case rest =>
            obtain ⟨q1, hd2, hg2⟩ := hcut
            obtain ⟨wb, rfl⟩ : ∃ wb, wb = wc := ⟨_, rfl⟩
            have HD2 := Lib.hid (HD1.out.then hd2)
            have HG := Lib.hid hg2
            have HK2 := Lib.hid (blk_fr HK1.out hd2.fr HNQ.out)
            obtain ⟨c0, c1, c2, _, _, _, c6, _, c8, _, _, _⟩ := hd2.rm.rb.cells
            rw [hg2] at c0 c1 c2 c6 c8
            have HNR := Lib.hid (show w.heap.size ∉ q1.foot from fun hm => by
              rcases hd2.ft _ hm with h1 | h1
              · exact HNQ.out h1
              · have := Blk.lt HK1.out; omega)
            clear hd2 hg2 b0 b1 b2 b3 b4 b5 b6 hdc
            have b0 := HK2.out.cell 0 (.int .i64 b.kind) rfl
            have b1 := HK2.out.cell 1 (.int .i64 b.frm) rfl
            have b2 := HK2.out.cell 2 (.int .i64 b.to) rfl
            have b3 := HK2.out.cell 3 (.int .i64 b.term) rfl
            have b4 := HK2.out.cell 4 (.int .i64 b.idx) rfl
            have b5 := HK2.out.cell 5 (.int .i64 b.lt) rfl
            have b6 := HK2.out.cell 6 (.bool b.yes) rfl
            go_upto_region 16 with fail
            go_cut [12] from 139 to 167 (fun c wx => c = .bool gr ∧ Below wb.heap.size wb wx)
            case first =>
              by_cases a1 : b.term = s1.term
              · have d1 : (b.term == s1.term) = true := by simp [a1]
                by_cases a2 : s1.vote = 0
                · have q2 : (s1.vote == 0) = true := by simp [a2]
                  have HG2 := Lib.hid (show gr = !nw by rw [← HGE.out]; simp [a1, a2])
                  clear a1 a2
                  cases nw <;> (go_quiet (fail); go_wp2_with fail; go_meet; exact ⟨by rw [HG2.out]; rfl, by simpa using below_dr _ _⟩)
                · have q2 : (s1.vote == 0) = false := by simpa using a2
                  by_cases a3 : s1.vote = b.frm
                  · have q3 : (s1.vote == b.frm) = true := by simp [a3]
                    have HG2 := Lib.hid (show gr = !nw by rw [← HGE.out]; simp [a1, a3])
                    clear a1 a2 a3
                    cases nw <;> (go_quiet (fail); go_wp2_with fail; go_meet; exact ⟨by rw [HG2.out]; rfl, by simpa using below_dr _ _⟩)
                  · have q3 : (s1.vote == b.frm) = false := by simpa using a3
                    have HG2 := Lib.hid (show gr = false by rw [← HGE.out]; simp [a2, a3])
                    clear a1 a2 a3
                    go_quiet (fail)
                    go_wp2_with fail
                    go_meet
                    exact ⟨by rw [HG2.out], by simpa using below_dr _ _⟩
              · have d1 : (b.term == s1.term) = false := by simpa using a1
                have HG2 := Lib.hid (show gr = false by rw [← HGE.out]; simp [a1])
                clear a1
                go_quiet (fail)
                go_wp2_with fail
                go_meet
                exact ⟨by rw [HG2.out], by simpa using below_dr _ _⟩
            case rest =>
              obtain ⟨rfl, hbw⟩ := hcut
              obtain ⟨wd, rfl⟩ : ∃ wd, wd = wc := ⟨_, rfl⟩
              have HD3 := Lib.hid (HD2.out.to hbw)
              have HK3 := Lib.hid (HK2.out.below hbw)
              have b1 := HK3.out.cell 1 (.int .i64 b.frm) rfl
              obtain ⟨c0, c1, c2, _, _, _, c6, _, c8, _, _, _⟩ := HD3.out.rm.rb.cells
              rw [HG.out] at c0 c1 c2 c6 c8
              clear hbw b0 b2 b3 b4 b5 b6
              cases gr with
              | false =>
                have HX := Lib.hid (show take s b last lt = (s1, [⟨4, s1.id, b.frm, s1.term, 0, 0, false⟩]) by rw [HE.out, HY.out]; rfl)
                go_wp2_with fail
                go_region
                go_wp2
                go_ret
                first | exact ⟨_, q1, rfl, by rw [HX.out]; exact (RA.one (HD3.out.to (below_d1 wd)) HG.out ⟨4, s1.id, b.frm, s1.term, 0, 0, false⟩).mono (Nat.le_succ _)⟩ | exact ⟨_, rfl, q1, by rw [HX.out]; exact (RA.one (HD3.out.to (below_d1 wd)) HG.out ⟨4, s1.id, b.frm, s1.term, 0, 0, false⟩).mono (Nat.le_succ _)⟩
              | true =>
                have HX := Lib.hid (show take s b last lt = (grant s1 b, [⟨4, s1.id, b.frm, s1.term, 0, 0, true⟩]) by rw [HE.out, HY.out]; rfl)
                have hok := HD3.out.rm.rb.ok
                have hgk := grant_ok hok HBF.out
                have m1 := HD3.out.rm.rb.set 2 (.int .i64 b.frm) (s' := { s1 with vote := b.frm }) rfl (by omega) rfl rfl ⟨hok.id1, hgk.hard, hok.grp, hok.pat1, hok.w0, hok.lm, hok.role, hok.lead, hok.am⟩
                have m2 := m1.rb.set 8 (.int .i64 0) (s' := { s1 with vote := b.frm, wait := 0 }) rfl (by omega) rfl rfl ⟨hok.id1, hgk.hard, hok.grp, hok.pat1, Int.le_refl _, hok.lm, hok.role, hok.lead, hok.am⟩
                have f2 := Blk.free HD3.out.rm.rb.blk 2
                have f8 := Blk.free m1.rb.blk 8
                have f6 := Blk.free m2.rb.blk 6
                have e6 := m2.rb.cells.2.2.2.2.2.2.1
                have HM2 := Lib.hid (m1.then m2)
                rw [HG.out] at f2 f8 f6 e6 HM2
                have HKM := Lib.hid (blk_fr HK3.out HM2.out.fr HNR.out)
                by_cases hr : s1.role = 1
                · have q6 : (s1.role == 1) = true := by simp [hr]
                  have HGR := Lib.hid (show grant s1 b = { s1 with vote := b.frm, wait := 0, role := 0 } by unfold grant; rw [if_pos hr])
                  have m3 := HM2.out.rb.set 6 (.int .i64 0) (s' := { s1 with vote := b.frm, wait := 0, role := 0 }) rfl (by omega) rfl rfl (role_ok HM2.out.rb.ok (by omega))
                  rw [HG.out] at m3
                  have HD4 := Lib.hid (HD3.out.then ((HM2.out.then m3).rd HD3.out.rm.hy HD3.out.rm.hn))
                  have z1 := (blk_fr HKM.out m3.fr HNR.out).cell 1 (.int .i64 b.frm) rfl
                  obtain ⟨z0, z2, _⟩ := HD4.out.rm.rb.cells
                  rw [HG.out] at z0 z2
                  clear hr m1 m2 m3 hok hgk
                  go_wp2_with fail
                  go_region
                  go_wp2
                  go_ret
                  exact ⟨_, q1, rfl, by rw [HX.out, HGR.out]; exact ((RA.oneAt HD4.out HG.out ⟨4, s1.id, b.frm, s1.term, 0, 0, true⟩ wd.heap.size (by first | simp | simp [World.setCell])).to (below_d1 _)).mono (Nat.le_succ _)⟩
                · have q6 : (s1.role == 1) = false := by simpa using hr
                  have HGR := Lib.hid (show grant s1 b = { s1 with vote := b.frm, wait := 0 } by unfold grant; rw [if_neg hr])
                  have HD4 := Lib.hid (HD3.out.then (HM2.out.rd HD3.out.rm.hy HD3.out.rm.hn))
                  have z1 := HKM.out.cell 1 (.int .i64 b.frm) rfl
                  obtain ⟨z0, z2, _⟩ := HD4.out.rm.rb.cells
                  rw [HG.out] at z0 z2
                  clear hr m1 m2 hok hgk
                  go_wp2_with fail
                  go_region
                  go_wp2
                  go_ret
                  exact ⟨_, q1, rfl, by rw [HX.out, HGR.out]; exact ((RA.oneAt HD4.out HG.out ⟨4, s1.id, b.frm, s1.term, 0, 0, true⟩ wd.heap.size (by first | simp | simp [World.setCell])).to (below_d1 _)).mono (Nat.le_succ _)⟩
        have p3 : (b.kind == 3) = false := by simpa using hk3
        by_cases hk4 : b.kind = 4
        · have HE := Lib.hid (show take s b last lt = (sayS s b, []) by rw [HP.out, if_neg (by simp), if_neg hk1, if_neg hk2, if_neg hk3, if_pos hk4])
          have p4 : (b.kind == 4) = true := by simp [hk4]
          clear hk1 hk2 hk3 hk4
          have HSD := Lib.hid (fun W (hW : Rm lo N W q s) => rdown_any q s b.term W hW HBT.out)
          have HSY := Lib.hid (fun W (hW : Rm lo N W q s) => rsays_any q s b W hW HBF.out hN2)
          obtain ⟨_, c1, _, _, _, _, c6, _, _, _, _, _⟩ := HI1.out.rb.cells
          by_cases ht : s.term < b.term
          · have d1 : decide (s.term < b.term) = true := decide_eq_true ht
            have HX := Lib.hid (show sayS s b = down s b.term by unfold sayS; rw [if_pos ht])
            clear ht
            go_wp2_with fail
            go_region
            go_wp2_with fail
            refine (HSD.out _ (by exact HI1.out.below (below_d1 _))).mono ?_
            rintro e w1 ⟨rfl, q1, hd1, hg1⟩
            have HD2 := Lib.hid (HD1.out.then (RD.past (below_d1 _) hd1))
            have HG := Lib.hid hg1
            clear hd1 hg1
            go_wp2
            go_ret
            first | exact ⟨_, q1, rfl, by rw [HE.out, HX.out]; exact (RA.emp HD2.out HG.out).mono (Nat.le_succ _)⟩ | exact ⟨_, rfl, q1, by rw [HE.out, HX.out]; exact (RA.emp HD2.out HG.out).mono (Nat.le_succ _)⟩
          have d1 : decide (s.term < b.term) = false := decide_eq_false ht
          obtain ⟨x2, hx2⟩ : ∃ x, ((s.role != 2) || (b.term != s.term)) = x := ⟨_, rfl⟩
          have HX2 := Lib.hid hx2
          have HSS := Lib.hid (show sayS s b = if x2 then s else if wonA s.vs (recA s.am b) then leadS (recS s b) else if lostA s.vs (recA s.am b) then { recS s b with role := 0 } else recS s b by
            rw [← hx2]
            unfold sayS
            rw [if_neg ht]
            by_cases a2 : s.role ≠ 2 ∨ b.term ≠ s.term
            · have e2 : ((s.role != 2) || (b.term != s.term)) = true := by simpa using a2
              rw [e2, if_pos a2]; rfl
            · have e2 : ((s.role != 2) || (b.term != s.term)) = false := Bool.eq_false_iff.2 (by intro e; simp at e; exact a2 (by omega))
              rw [e2, if_neg a2]; rfl)
          clear ht hx2
          go_wp2_with fail
          go_region
          go_upto_region 27 with fail
          obtain ⟨wp, hwp⟩ : ∃ wp, World.drew wa = wp := ⟨_, rfl⟩
          have HI2 := Lib.hid (hwp ▸ HI1.out.below (below_d1 wa))
          have HD2 := Lib.hid (hwp ▸ HD1.out.to (below_d1 wa))
          have HK2 := Lib.hid (show Blk wp w.heap.size _ _ from hwp ▸ HK1.out.below (below_d1 wa))
          simp only [hwp]
          have HWP := Lib.hid hwp
          clear hwp c1 c6 b0 b1 b2 b3 b4 b5 b6
          obtain ⟨_, c1, _, _, _, _, c6, _, _, _, _, _⟩ := HI2.out.rb.cells
          have b0 := HK2.out.cell 0 (.int .i64 b.kind) rfl
          have b1 := HK2.out.cell 1 (.int .i64 b.frm) rfl
          have b2 := HK2.out.cell 2 (.int .i64 b.to) rfl
          have b3 := HK2.out.cell 3 (.int .i64 b.term) rfl
          have b4 := HK2.out.cell 4 (.int .i64 b.idx) rfl
          have b5 := HK2.out.cell 5 (.int .i64 b.lt) rfl
          have b6 := HK2.out.cell 6 (.bool b.yes) rfl
          go_cut [228] from 216 to 227 (fun c wx => c = .bool x2 ∧ Below wp.heap.size wp wx)
          case first =>
            have hx2 := HX2.out
            by_cases a1 : s.role = 2
            · have q1 : (s.role != 2) = false := by simp [a1]
              by_cases a2 : b.term = s.term
              · have q2 : (b.term != s.term) = false := by simp [a2]
                have HG2 := Lib.hid (show x2 = false by rw [← hx2, q1, q2]; rfl)
                clear a1 a2 hx2
                go_quiet (fail)
                go_wp2_with fail
                go_meet
                exact ⟨by rw [HG2.out], by simpa using below_dr _ _⟩
              · have q2 : (b.term != s.term) = true := by simpa using a2
                have HG2 := Lib.hid (show x2 = true by rw [← hx2, q1, q2]; rfl)
                clear a1 a2 hx2
                go_quiet (fail)
                go_wp2_with fail
                go_meet
                exact ⟨by rw [HG2.out], by simpa using below_dr _ _⟩
            · have q1 : (s.role != 2) = true := by simpa using a1
              have HG2 := Lib.hid (show x2 = true by rw [← hx2, q1]; rfl)
              clear a1 hx2
              go_quiet (fail)
              go_wp2_with fail
              go_meet
              exact ⟨by rw [HG2.out], by simpa using below_dr _ _⟩
          case rest =>
            obtain ⟨rfl, hbw⟩ := hcut
            obtain ⟨wb, rfl⟩ : ∃ wb, wb = wc := ⟨_, rfl⟩
            have HI3 := Lib.hid (HI2.out.below hbw)
            have HD3 := Lib.hid (HD2.out.to hbw)
            have HK3 := Lib.hid (HK2.out.below hbw)
            have b1 := HK3.out.cell 1 (.int .i64 b.frm) rfl
            have b6 := HK3.out.cell 6 (.bool b.yes) rfl
            clear hbw c1 c6 b0 b2 b3 b4 b5
            cases x2 with
            | true =>
              have HX := Lib.hid (show sayS s b = s by rw [HSS.out]; rfl)
              go_wp2
              go_ret
              first | exact ⟨_, q, rfl, by rw [HE.out, HX.out]; exact (RA.emp HD3.out rfl).mono (Nat.le_succ _)⟩ | exact ⟨_, rfl, q, by rw [HE.out, HX.out]; exact (RA.emp HD3.out rfl).mono (Nat.le_succ _)⟩
            | false =>
              go_wp2_with fail
              refine (HSY.out _ (by exact HI3.out)).mono ?_
              rintro e w3 ⟨rfl, q1, hd3, hg3⟩
              have HD4 := Lib.hid (HD3.out.then hd3)
              have HG := Lib.hid hg3
              clear hd3 hg3 b1 b6
              obtain ⟨g0, _, _, g3, g4, _, _, _, _, _, g10, _⟩ := HD4.out.rm.rb.cells
              rw [show (recS s b).vs = s.vs from rfl, HG.out] at g3
              rw [show (recS s b).ls = s.ls from rfl, HG.out] at g4
              rw [HG.out] at g10
              have HWC := Lib.hid (fun W (hW : Below w3.heap.size w3 W) => node_wins HD4.out.rm W hW)
              have HLC := Lib.hid (fun W (hW : Below w3.heap.size w3 W) => node_lost HD4.out.rm W hW)
              go_upto_region 30 with fail
              go_cut [13] from 235 to 243 (fun c wx => c = .bool (wonA s.vs (recA s.am b)) ∧ Below w3.heap.size w3 wx)
              case first =>
                go_region_held3 (fun w' => w'.cell? ⟨q.g, 3, none⟩ = some (.slice q1.VA s.vs.length q1.vc) ∧ w'.cell? ⟨q.g, 4, none⟩ = some (.slice q1.LA s.ls.length q1.lc) ∧ w'.cell? ⟨q.g, 10, none⟩ = some q1.yv) (first | exact ⟨by assumption, by assumption, by assumption⟩ | go_keep) (first
                  | (go_at_call 37; refine (HWC.out _ (by exact below_d1 w3)).mono ?_; rintro e w5 ⟨rfl, hb5⟩; have HB5 := Lib.hid ((below_d1 w3).trans hb5); have y3 := (hb5.cell (lt_of_cell (show World.cell? _ _ = some _ from g3))).trans g3; have y4 := (hb5.cell (lt_of_cell (show World.cell? _ _ = some _ from g4))).trans g4; have y10 := (hb5.cell (lt_of_cell (show World.cell? _ _ = some _ from g10))).trans g10; clear hb5))
                all_goals
                  go_wp2_with fail
                  go_meet
                  exact ⟨rfl, HB5.out⟩
              case rest =>
                obtain ⟨rfl, hbw⟩ := hcut
                obtain ⟨wd, rfl⟩ : ∃ wd, wd = wc := ⟨_, rfl⟩
                have HD5 := Lib.hid (HD4.out.to hbw)
                have HLC := Lib.hid (fun W (hW : Below wd.heap.size wd W) => HLC.out W (hbw.trans (hW.mono hbw.size)))
                clear hbw g0 g3 g4 g10 HWC
                obtain ⟨g0, _, _, g3, g4, _, g6, _, _, _, _, g10⟩ := HD5.out.rm.rb.cells
                rw [show (recS s b).vs = s.vs from rfl, HG.out] at g3
                rw [show (recS s b).ls = s.ls from rfl, HG.out] at g4
                rw [HG.out] at g10
                go_upto_region 31 with fail
                go_cut [14] from 244 to 252 (fun c wx => c = .bool (lostA s.vs (recA s.am b)) ∧ Below wd.heap.size wd wx)
                case first =>
                  go_region_held3 (fun w' => w'.cell? ⟨q.g, 3, none⟩ = some (.slice q1.VA s.vs.length q1.vc) ∧ w'.cell? ⟨q.g, 4, none⟩ = some (.slice q1.LA s.ls.length q1.lc) ∧ w'.cell? ⟨q.g, 11, none⟩ = some q1.nv) (first | exact ⟨by assumption, by assumption, by assumption⟩ | go_keep) (first
                    | (go_at_call 49; refine (HLC.out _ (by exact below_d1 wd)).mono ?_; rintro e w5 ⟨rfl, hb5⟩; have HB5 := Lib.hid ((below_d1 wd).trans hb5); have y3 := (hb5.cell (lt_of_cell (show World.cell? _ _ = some _ from g3))).trans g3; have y4 := (hb5.cell (lt_of_cell (show World.cell? _ _ = some _ from g4))).trans g4; have y10 := (hb5.cell (lt_of_cell (show World.cell? _ _ = some _ from g10))).trans g10; clear hb5))
                  all_goals
                    go_wp2_with fail
                    go_meet
                    exact ⟨rfl, HB5.out⟩
                case rest =>
                  obtain ⟨rfl, hbw⟩ := hcut
                  obtain ⟨we, rfl⟩ : ∃ we, we = wc := ⟨_, rfl⟩
                  have HD6 := Lib.hid (HD5.out.to hbw)
                  clear hbw g0 g3 g4 g10 g6 HLC
                  cases hw : wonA s.vs (recA s.am b) with
                  | true =>
                    have HX := Lib.hid (show sayS s b = leadS (recS s b) by rw [HSS.out, hw]; rfl)
                    have HL := Lib.hid (rlead_any q1 (recS s b) we HD6.out.rm)
                    rw [HG.out] at HL
                    clear hw
                    go_wp2_with fail
                    refine HL.out.mono ?_
                    rintro e w7 ⟨rfl, hd7⟩
                    have HD7 := Lib.hid (HD6.out.then hd7)
                    clear hd7
                    go_wp2
                    go_ret
                    first | exact ⟨_, q1, rfl, by rw [HE.out, HX.out]; exact RA.emp HD7.out HG.out⟩ | exact ⟨_, rfl, q1, by rw [HE.out, HX.out]; exact RA.emp HD7.out HG.out⟩
                  | false =>
                    cases hl : lostA s.vs (recA s.am b) with
                    | true =>
                      have HX := Lib.hid (show sayS s b = { recS s b with role := 0 } by rw [HSS.out, hw, hl]; rfl)
                      have s6 := HD6.out.rm.rb.set 6 (.int .i64 0) (s' := { recS s b with role := 0 }) rfl (by omega) rfl rfl (role_ok HD6.out.rm.rb.ok (by omega))
                      have g6 := HD6.out.rm.rb.cells.2.2.2.2.2.2.1
                      have f6 := Blk.free HD6.out.rm.rb.blk 6
                      have HD7 := Lib.hid (HD6.out.then (s6.rd HD6.out.rm.hy HD6.out.rm.hn))
                      rw [HG.out] at g6 f6 HD7
                      clear hw hl s6
                      go_wp2
                      go_ret
                      first | exact ⟨_, q1, rfl, by rw [HE.out, HX.out]; exact RA.emp HD7.out HG.out⟩ | exact ⟨_, rfl, q1, by rw [HE.out, HX.out]; exact RA.emp HD7.out HG.out⟩
                    | false =>
                      have HX := Lib.hid (show sayS s b = recS s b by rw [HSS.out, hw, hl]; rfl)
                      clear hw hl
                      go_wp2
                      go_ret
                      first | exact ⟨_, q1, rfl, by rw [HE.out, HX.out]; exact RA.emp HD6.out HG.out⟩ | exact ⟨_, rfl, q1, by rw [HE.out, HX.out]; exact RA.emp HD6.out HG.out⟩
        · have HE := Lib.hid (show take s b last lt = (s, []) by rw [HP.out, if_neg (by simp), if_neg hk1, if_neg hk2, if_neg hk3, if_neg hk4])
          have p4 : (b.kind == 4) = false := by simpa using hk4
          clear hk1 hk2 hk3 hk4
          go_wp2
          go_ret
          first | exact ⟨_, q, rfl, by rw [HE.out]; exact (RA.emp HD1.out rfl).mono (Nat.le_succ _)⟩ | exact ⟨_, rfl, q, by rw [HE.out]; exact (RA.emp HD1.out rfl).mono (Nat.le_succ _)⟩
end Go.Proofs.Ytjajgjpkiofhmaa.El
