/-
  Layer 10, in the program: takeAsk. Conditions: as each theorem states.
-/
import Derived.Test.YtjajgjpkiofhmaaElK1
import Derived.Deep.CutRange
namespace Go.Proofs.Ytjajgjpkiofhmaa.El
open Go.RowKit Go.Proofs.Ytjajgjpkiofhmaa.Qu Go.Proofs.Ytjajgjpkiofhmaa.Fld
set_option linter.unusedVariables false

set_option maxRecDepth 100000 in
set_option maxHeartbeats 3200000 in
theorem takeAsk_any (p : Pl) (s : St) (b : Bal) (last lt : Int) (w : World) (h : Im w p s) (hbf : okNode b.frm = true) (hbt : okTerm b.term = true) : Calls Try.prog 44 #[.pointer (some ⟨p.g, 0, none⟩), b.val, entV last lt] w fun e w' => ∃ v, e = .returned v ∧ Ans w w' p (askS s b last lt).1 v (askS s b last lt).2 := by
  have hal := boxes_below w b last lt
  have hi := h.below hal
  have hd0 := Did.same h hal
  obtain ⟨hk1, hk2⟩ := boxes_blk w b last lt
  have hn1 := h.new w.heap.size (Nat.le_refl _)
  have hn2 := h.new (w.heap.size + 1) (by omega)
  have HKS := Lib.hid (fun W (hf : Dk.Fr p.ft (boxes w b last lt) W) => And.intro (blk_fr hk1 hf hn1) (blk_fr hk2 hf hn2))
  have HN := Lib.hid (fun W => newer_any last lt b W)
  have HIS := Lib.hid (fun W (hW : Below (boxes w b last lt).heap.size (boxes w b last lt) W) => hi.below hW)
  obtain ⟨_, _, c2, _, _, _, _, _, _, _, _⟩ := hi.blk.cells
  have b0 := (And.intro hk1 hk2).1.cell 0 (.int .i64 b.kind) rfl
  have b1 := (And.intro hk1 hk2).1.cell 1 (.int .i64 b.frm) rfl
  have b2 := (And.intro hk1 hk2).1.cell 2 (.int .i64 b.to) rfl
  have b3 := (And.intro hk1 hk2).1.cell 3 (.int .i64 b.term) rfl
  have b4 := (And.intro hk1 hk2).1.cell 4 (.int .i64 b.idx) rfl
  have b5 := (And.intro hk1 hk2).1.cell 5 (.int .i64 b.lt) rfl
  have b6 := (And.intro hk1 hk2).1.cell 6 (.bool b.yes) rfl
  have o0 := (And.intro hk1 hk2).2.cell 0 (.int .i64 last) rfl
  have o1 := (And.intro hk1 hk2).2.cell 1 (.int .i64 lt) rfl
  have HD0 := Lib.hid hd0
  have HNF := Lib.hid hn1
  have HSD := Lib.hid (fun W (hW : Below (boxes w b last lt).heap.size (boxes w b last lt) W) => stepDown_any p s b.term W (hi.below hW) hbt)
  have HI0 := Lib.hid hi
  obtain ⟨s1, hs1⟩ : ∃ s1, dn s b = s1 := ⟨_, rfl⟩
  have HS1 := Lib.hid hs1
  have HID := Lib.hid (show s1.id = s.id by rw [← hs1]; exact (dn_same s b).1)
  obtain ⟨fr, hfr⟩ : ∃ fr, (decide (s1.vote = 0) || decide (s1.vote = b.frm)) = fr := ⟨_, rfl⟩
  obtain ⟨gr, hgr⟩ : ∃ gr, (fr && (decide (b.term = s1.term) && !newer last lt b)) = gr := ⟨_, rfl⟩
  have HY := Lib.hid (show askS s b last lt = if gr then (grant s1 b, [⟨4, s1.id, b.frm, s1.term, 0, 0, true⟩]) else (s1, [⟨4, s1.id, b.frm, s1.term, 0, 0, false⟩]) by
    unfold askS
    rw [hs1, show askY s1 b last lt = gr by rw [← hgr, ← hfr]; rfl, HID.out])
  have HG0 := Lib.hid (fun W (hW : Im W p s1) => grant_any p s1 b W hW hbf)
  have HFR := Lib.hid hfr
  have HGR := Lib.hid hgr
  unfold entV Bal.val at HN ⊢
  unfold boxes ballC at *
  clear h hal hi hd0 hk1 hk2 hn1 hn2 hfr hgr hs1
  obtain ⟨dc, hdc⟩ : ∃ c, decide (s.term < b.term) = c := ⟨_, rfl⟩
  go_enter Try.func44, Try.ntmps44
  go_wp2_with fail
  go_region
  go_upto_if 16 with fail
  go_cut [] from 9 to 20 (fun wx => Did ((w.alloc (.cells #[.int .i64 b.kind, .int .i64 b.frm, .int .i64 b.to, .int .i64 b.term, .int .i64 b.idx, .int .i64 b.lt, .bool b.yes] 40)).alloc (.cells #[.int .i64 last, .int .i64 lt] 80)) wx p s1)
  case first =>
    cases dc with
    | true =>
      have ht := of_decide_eq_true hdc
      have HE := Lib.hid (show down s b.term = s1 by rw [← HS1.out]; unfold dn; rw [if_pos ht])
      clear ht hdc
      go_wp2_with fail
      refine (HSD.out _ (by exact below_d1 _)).mono ?_
      rintro e w1 ⟨rfl, hd1⟩
      have HD1 := Lib.hid (Did.past (below_d1 _) hd1)
      clear hd1
      rw [HE.out] at HD1
      go_wp2_with fail
      go_meet
      exact HD1.out
    | false =>
      have ht := of_decide_eq_false hdc
      have HE := Lib.hid (show s = s1 by rw [← HS1.out]; unfold dn; rw [if_neg ht])
      have HD1 := Lib.hid (Did.same HI0.out (below_d1 _))
      clear ht hdc
      rw [show Did ((w.alloc (.cells #[.int .i64 b.kind, .int .i64 b.frm, .int .i64 b.to, .int .i64 b.term, .int .i64 b.idx, .int .i64 b.lt, .bool b.yes] 40)).alloc (.cells #[.int .i64 last, .int .i64 lt] 80)) (World.drew ((w.alloc (.cells #[.int .i64 b.kind, .int .i64 b.frm, .int .i64 b.to, .int .i64 b.term, .int .i64 b.idx, .int .i64 b.lt, .bool b.yes] 40)).alloc (.cells #[.int .i64 last, .int .i64 lt] 80))) p s = Did ((w.alloc (.cells #[.int .i64 b.kind, .int .i64 b.frm, .int .i64 b.to, .int .i64 b.term, .int .i64 b.idx, .int .i64 b.lt, .bool b.yes] 40)).alloc (.cells #[.int .i64 last, .int .i64 lt] 80)) (World.drew ((w.alloc (.cells #[.int .i64 b.kind, .int .i64 b.frm, .int .i64 b.to, .int .i64 b.term, .int .i64 b.idx, .int .i64 b.lt, .bool b.yes] 40)).alloc (.cells #[.int .i64 last, .int .i64 lt] 80))) p s1 from congrArg _ HE.out] at HD1
      go_wp2_with fail
      go_meet
      exact HD1.out
  case rest =>
    have HD1 := Lib.hid hcut
    clear hcut hdc c2 b0 b1 b2 b3 b4 b5 b6 o0 o1
    obtain ⟨wa, rfl⟩ : ∃ wa, wa = wc := ⟨_, rfl⟩
    have hk := HKS.out wa HD1.out.fr
    have HKW := Lib.hid hk
    have c3 := HD1.out.im.blk.cells.2.2.2.1
    have b1 := hk.1.cell 1 (.int .i64 b.frm) rfl
    clear hk
    go_upto_region 3 with fail
    go_cut [7] from 21 to 36 (fun c wx => c = .bool fr ∧ Below wa.heap.size wa wx)
    case first =>
      have hfr := HFR.out
      by_cases h0 : s1.vote = 0
      · have q0 : (s1.vote == 0) = true := by simp [h0]
        have HF2 := Lib.hid (show fr = true by rw [← hfr]; simp [h0])
        clear h0 hfr
        go_quiet (fail)
        go_wp2_with fail
        go_meet
        exact ⟨by rw [HF2.out], by simpa using below_dr wa _⟩
      · have q0 : (s1.vote == 0) = false := by simpa using h0
        by_cases h1 : s1.vote = b.frm
        · have q1 : (s1.vote == b.frm) = true := by simp [h1]
          have HF2 := Lib.hid (show fr = true by rw [← hfr]; simp [h1])
          clear h0 h1 hfr
          go_quiet (fail)
          go_wp2_with fail
          go_meet
          exact ⟨by rw [HF2.out], by simpa using below_dr wa _⟩
        · have q1 : (s1.vote == b.frm) = false := by simpa using h1
          have HF2 := Lib.hid (show fr = false by rw [← hfr]; simp [h0, h1])
          clear h0 h1 hfr
          go_quiet (fail)
          go_wp2_with fail
          go_meet
          exact ⟨by rw [HF2.out], by simpa using below_dr wa _⟩
    case rest =>
      obtain ⟨rfl, hbw⟩ := hcut
      have HB2 := Lib.hid hbw
      clear hbw c3 b1
      obtain ⟨wb, rfl⟩ : ∃ wb, wb = wc := ⟨_, rfl⟩
      have hk := And.intro (HKW.out.1.below HB2.out) (HKW.out.2.below HB2.out)
      have HKB := Lib.hid hk
      have hi2 := HD1.out.im.below HB2.out
      have c2 := hi2.blk.cells.2.2.1
      have b0 := (hk).1.cell 0 (.int .i64 b.kind) rfl
      have b1 := (hk).1.cell 1 (.int .i64 b.frm) rfl
      have b2 := (hk).1.cell 2 (.int .i64 b.to) rfl
      have b3 := (hk).1.cell 3 (.int .i64 b.term) rfl
      have b4 := (hk).1.cell 4 (.int .i64 b.idx) rfl
      have b5 := (hk).1.cell 5 (.int .i64 b.lt) rfl
      have b6 := (hk).1.cell 6 (.bool b.yes) rfl
      have o0 := (hk).2.cell 0 (.int .i64 last) rfl
      have o1 := (hk).2.cell 1 (.int .i64 lt) rfl
      clear hk hi2
      go_upto_region 4 with fail
      go_cut [8] from 37 to 53 (fun c wx => c = .bool gr ∧ Below wb.heap.size wb wx)
      case first =>
        have hgr := HGR.out
        cases fr with
        | false =>
          have HG := Lib.hid (show gr = false by rw [← hgr]; rfl)
          clear hgr
          go_quiet (fail)
          go_wp2_with fail
          go_meet
          exact ⟨by rw [HG.out], by simpa using below_dr wb _⟩
        | true =>
          by_cases ht : b.term = s1.term
          · have d1 : (b.term == s1.term) = true := by simp [ht]
            have HG := Lib.hid (show gr = !newer last lt b by rw [← hgr]; simp [ht])
            clear hgr ht
            generalize newer last lt b = nw at *
            go_region_held3 (fun w' => w'.cell? ⟨p.g, 2, none⟩ = some (.int .i64 s1.term) ∧ w'.cell? ⟨w.heap.size, 0, none⟩ = some (.int .i64 b.kind) ∧ w'.cell? ⟨w.heap.size, 1, none⟩ = some (.int .i64 b.frm) ∧ w'.cell? ⟨w.heap.size, 2, none⟩ = some (.int .i64 b.to) ∧ w'.cell? ⟨w.heap.size, 3, none⟩ = some (.int .i64 b.term) ∧ w'.cell? ⟨w.heap.size, 4, none⟩ = some (.int .i64 b.idx) ∧ w'.cell? ⟨w.heap.size, 5, none⟩ = some (.int .i64 b.lt) ∧ w'.cell? ⟨w.heap.size, 6, none⟩ = some (.bool b.yes) ∧ w'.cell? ⟨w.heap.size + 1, 0, none⟩ = some (.int .i64 last) ∧ w'.cell? ⟨w.heap.size + 1, 1, none⟩ = some (.int .i64 lt)) (first | exact ⟨by assumption, by assumption, by assumption, by assumption, by assumption, by assumption, by assumption, by assumption, by assumption, by assumption⟩ | go_keep) (first
              | (go_at_call 62; refine (HN.out _).mono ?_; rintro e w3 ⟨rfl, hb3⟩; have HB3 := Lib.hid ((below_d1 wb).trans hb3); have dc2 := (hb3.cell (lt_of_cell (show World.cell? _ _ = some _ from c2))).trans c2; have db0 := (hb3.cell (lt_of_cell (show World.cell? _ _ = some _ from b0))).trans b0; have db1 := (hb3.cell (lt_of_cell (show World.cell? _ _ = some _ from b1))).trans b1; have db2 := (hb3.cell (lt_of_cell (show World.cell? _ _ = some _ from b2))).trans b2; have db3 := (hb3.cell (lt_of_cell (show World.cell? _ _ = some _ from b3))).trans b3; have db4 := (hb3.cell (lt_of_cell (show World.cell? _ _ = some _ from b4))).trans b4; have db5 := (hb3.cell (lt_of_cell (show World.cell? _ _ = some _ from b5))).trans b5; have db6 := (hb3.cell (lt_of_cell (show World.cell? _ _ = some _ from b6))).trans b6; have do0 := (hb3.cell (lt_of_cell (show World.cell? _ _ = some _ from o0))).trans o0; have do1 := (hb3.cell (lt_of_cell (show World.cell? _ _ = some _ from o1))).trans o1; clear hb3))
            all_goals
              go_wp2_with fail
              go_meet
              exact ⟨by rw [HG.out], HB3.out⟩
          · have d1 : (b.term == s1.term) = false := by simpa using ht
            have HG := Lib.hid (show gr = false by rw [← hgr]; simp [ht])
            clear hgr ht
            go_quiet (fail)
            go_wp2_with fail
            go_meet
            exact ⟨by rw [HG.out], by simpa using below_dr wb _⟩
      case rest =>
        obtain ⟨rfl, hbw⟩ := hcut
        have HB3 := Lib.hid hbw
        clear hbw c2 b0 b1 b2 b3 b4 b5 b6 o0 o1
        obtain ⟨wd, rfl⟩ : ∃ wd, wd = wc := ⟨_, rfl⟩
        have hk := And.intro (HKB.out.1.below HB3.out) (HKB.out.2.below HB3.out)
        have hi3 := (HD1.out.im.below HB2.out).below HB3.out
        have hd3 := ((HD0.out.then HD1.out).to HB2.out).to HB3.out
        have HD3 := Lib.hid hd3
        have b1 := hk.1.cell 1 (.int .i64 b.frm) rfl
        cases gr with
        | true =>
          have HX := Lib.hid (show askS s b last lt = (grant s1 b, [⟨4, s1.id, b.frm, s1.term, 0, 0, true⟩]) by rw [HY.out]; rfl)
          have HGC := Lib.hid (HG0.out wd hi3)
          have HKD := Lib.hid hk.1
          have HNW := HNF
          clear hk hi3 hd3
          go_wp2_with fail
          refine HGC.out.mono ?_
          rintro e w5 ⟨rfl, hd5⟩
          have HD5 := Lib.hid (HD3.out.then hd5)
          have hk5 := blk_fr HKD.out hd5.fr HNW.out
          have e1 := hk5.cell 1 (.int .i64 b.frm) rfl
          have e0 := hd5.im.blk.cells.1
          have e2 := hd5.im.blk.cells.2.2.1
          rw [show (grant s1 b).id = s1.id from rfl] at e0
          rw [show (grant s1 b).term = s1.term from rfl] at e2
          clear hd5 hk5 b1
          go_wp2_with fail
          go_region
          go_wp2
          go_ret
          exact ⟨_, rfl, by rw [HX.out]; exact Ans.one (HD5.out.to (below_d1 w5)) ⟨4, s1.id, b.frm, s1.term, 0, 0, true⟩⟩
        | false =>
          have HX := Lib.hid (show askS s b last lt = (s1, [⟨4, s1.id, b.frm, s1.term, 0, 0, false⟩]) by rw [HY.out]; rfl)
          have c0 := hi3.blk.cells.1
          have c2 := hi3.blk.cells.2.2.1
          clear hk hi3 hd3
          go_wp2_with fail
          go_region
          go_wp2
          go_ret
          exact ⟨_, rfl, by rw [HX.out]; exact Ans.one (HD3.out.to (below_d1 wd)) ⟨4, s1.id, b.frm, s1.term, 0, 0, false⟩⟩
end Go.Proofs.Ytjajgjpkiofhmaa.El
