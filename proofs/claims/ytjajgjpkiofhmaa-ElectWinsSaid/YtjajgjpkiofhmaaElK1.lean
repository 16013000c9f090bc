/-
  Layer 10, in the program: takePre. Conditions: as each theorem states.
-/
import Derived.Test.YtjajgjpkiofhmaaElT
import Derived.Deep.CutRange
namespace Go.Proofs.Ytjajgjpkiofhmaa.El
open Go.RowKit Go.Proofs.Ytjajgjpkiofhmaa.Qu Go.Proofs.Ytjajgjpkiofhmaa.Fld
set_option linter.unusedVariables false

/-- a ballot and the own log's end, boxed -/
def boxes (w : World) (b : Bal) (last lt : Int) : World := (w.alloc (.cells (ballC b) 40)).alloc (.cells #[.int .i64 last, .int .i64 lt] 80)
theorem boxes_below (w : World) (b : Bal) (last lt : Int) : Below w.heap.size w (boxes w b last lt) := (alloc_below w _).trans ((alloc_below (w.alloc (.cells (ballC b) 40)) _).mono (alloc_below w _).size)
theorem boxes_blk (w : World) (b : Bal) (last lt : Int) : Blk (boxes w b last lt) w.heap.size (ballC b) 40 ∧ Blk (boxes w b last lt) (w.heap.size + 1) #[.int .i64 last, .int .i64 lt] 80 := by
  refine ⟨(Blk.new w (ballC b) _).past _, ?_⟩
  have := Blk.new (w.alloc (.cells (ballC b) 40)) #[.int .i64 last, .int .i64 lt] 80
  rwa [show (w.alloc (.cells (ballC b) 40)).heap.size = w.heap.size + 1 by simp] at this
theorem Ans.one {w W : World} {p : Pl} {s : St} (h : Did w W p s) (x : Bal) : Ans w (W.alloc (.cells (ballC x) 40)) p s (.slice (some ⟨W.heap.size, 0, none⟩) 1 1) [x] :=
  Ans.after h (ownB_one W W (Below.refl _ _) x)
set_option maxRecDepth 100000 in
set_option maxHeartbeats 3200000 in
theorem takePre_any (p : Pl) (s : St) (b : Bal) (last lt : Int) (w : World) (h : Im w p s) : Calls Try.prog 42 #[.pointer (some ⟨p.g, 0, none⟩), b.val, entV last lt] w fun e w' => ∃ v, e = .returned v ∧ Ans w w' p s v [preB s b last lt] := by
  have hal := boxes_below w b last lt
  have hi := h.below hal
  have hd0 := Did.same h hal
  obtain ⟨hk1, hk2⟩ := boxes_blk w b last lt
  have hn1 := h.new w.heap.size (Nat.le_refl _)
  have hn2 := h.new (w.heap.size + 1) (by omega)
  have HKS := Lib.hid (fun W (hf : Dk.Fr p.ft (boxes w b last lt) W) => And.intro (blk_fr hk1 hf hn1) (blk_fr hk2 hf hn2))
  have HN := Lib.hid (fun W => newer_any last lt b W)
  have HIS := Lib.hid (fun W (hW : Below (boxes w b last lt).heap.size (boxes w b last lt) W) => hi.below hW)
  obtain ⟨c0, c1, c2, _, _, _, _, c7, c8, _, _⟩ := hi.blk.cells
  have HD := Lib.hid (fun W (hW : Below (boxes w b last lt).heap.size (boxes w b last lt) W) => hd0.to hW)
  have HP := Lib.hid (show preB s b last lt = ⟨2, s.id, b.frm, if preY s b last lt then b.term else s.term, 0, 0, preY s b last lt⟩ from rfl)
  have HBR := Lib.hid (fun W (hW : Below (boxes w b last lt).heap.size (boxes w b last lt) W) => HKS.out W (Dk.Fr.below hW))
  obtain ⟨fr, hfr⟩ : ∃ fr, (decide (s.lead = 0) || decide (s.pat ≤ s.wait)) = fr := ⟨_, rfl⟩
  obtain ⟨gr, hgr⟩ : ∃ gr, (fr && (decide (s.term < b.term) && !newer last lt b)) = gr := ⟨_, rfl⟩
  have HY := Lib.hid (show preY s b last lt = gr by rw [← hgr, ← hfr]; rfl)
  have HB0 := Lib.hid (Below.refl (boxes w b last lt).heap.size (boxes w b last lt))
  have HFR := Lib.hid hfr
  have HGR := Lib.hid hgr
  unfold entV Bal.val at HN ⊢
  unfold boxes ballC at *
  clear h hal hi hd0 hk1 hk2 hn1 hn2 HKS hfr hgr
  go_enter Try.func42, Try.ntmps42
  go_upto_region 1 with fail
  go_cut [7] from 10 to 25 (fun c wx => c = .bool fr ∧ Below (w.heap.size + 1 + 1) ((w.alloc (.cells #[.int .i64 b.kind, .int .i64 b.frm, .int .i64 b.to, .int .i64 b.term, .int .i64 b.idx, .int .i64 b.lt, .bool b.yes] 40)).alloc (.cells #[.int .i64 last, .int .i64 lt] 80)) wx)
  case first =>
    have hfr := HFR.out
    by_cases h0 : s.lead = 0
    · have q0 : (s.lead == 0) = true := by simp [h0]
      have HF2 := Lib.hid (show fr = true by rw [← hfr]; simp [h0])
      clear h0 hfr
      go_quiet (fail)
      go_wp2_with fail
      go_meet
      exact ⟨by rw [HF2.out], by simpa using HB0.out.trans (below_dr _ _)⟩
    · have q0 : (s.lead == 0) = false := by simpa using h0
      by_cases h1 : s.pat ≤ s.wait
      · have q1 : decide (s.pat ≤ s.wait) = true := decide_eq_true h1
        have HF2 := Lib.hid (show fr = true by rw [← hfr]; simp [h1])
        clear h0 hfr
        go_quiet (fail)
        go_wp2_with fail
        go_meet
        exact ⟨by rw [HF2.out], by simpa using HB0.out.trans (below_dr _ _)⟩
      · have q1 : decide (s.pat ≤ s.wait) = false := decide_eq_false h1
        have HF2 := Lib.hid (show fr = false by rw [← hfr]; simp [h0, h1])
        clear h0 hfr
        go_quiet (fail)
        go_wp2_with fail
        go_meet
        exact ⟨by rw [HF2.out], by simpa using HB0.out.trans (below_dr _ _)⟩
  case rest =>
    obtain ⟨rfl, hbw⟩ := hcut
    obtain ⟨wa, rfl⟩ : ∃ wa, wa = wc := ⟨_, rfl⟩
    have HB1 := Lib.hid (show Below ((w.alloc (.cells #[.int .i64 b.kind, .int .i64 b.frm, .int .i64 b.to, .int .i64 b.term, .int .i64 b.idx, .int .i64 b.lt, .bool b.yes] 40)).alloc (.cells #[.int .i64 last, .int .i64 lt] 80)).heap.size ((w.alloc (.cells #[.int .i64 b.kind, .int .i64 b.frm, .int .i64 b.to, .int .i64 b.term, .int .i64 b.idx, .int .i64 b.lt, .bool b.yes] 40)).alloc (.cells #[.int .i64 last, .int .i64 lt] 80)) wa from by simpa using hbw)
    clear hbw c0 c1 c2 c7 c8
    have hi1 := HIS.out wa HB1.out
    have hk := HBR.out wa HB1.out
    have c2 := hi1.blk.cells.2.2.1
    have b0 := (hk).1.cell 0 (.int .i64 b.kind) rfl
    have b1 := (hk).1.cell 1 (.int .i64 b.frm) rfl
    have b2 := (hk).1.cell 2 (.int .i64 b.to) rfl
    have b3 := (hk).1.cell 3 (.int .i64 b.term) rfl
    have b4 := (hk).1.cell 4 (.int .i64 b.idx) rfl
    have b5 := (hk).1.cell 5 (.int .i64 b.lt) rfl
    have b6 := (hk).1.cell 6 (.bool b.yes) rfl
    have o0 := (hk).2.cell 0 (.int .i64 last) rfl
    have o1 := (hk).2.cell 1 (.int .i64 lt) rfl
    clear hi1 hk
    go_upto_region 2 with fail
    go_cut [8] from 26 to 53 (fun c wx => c = .bool gr ∧ Below wa.heap.size wa wx)
    case first =>
      have hgr := HGR.out
      cases fr with
      | false =>
        have HG := Lib.hid (show gr = false by rw [← hgr]; rfl)
        clear hgr
        go_quiet (fail)
        go_wp2_with fail
        go_meet
        exact ⟨by rw [HG.out], by simpa using below_dr wa _⟩
      | true =>
        by_cases ht : s.term < b.term
        · have d1 : decide (s.term < b.term) = true := decide_eq_true ht
          have HG := Lib.hid (show gr = !newer last lt b by rw [← hgr, d1]; simp)
          clear hgr ht
          generalize newer last lt b = nw at *
          go_region_held3 (fun w' => w'.cell? ⟨p.g, 2, none⟩ = some (.int .i64 s.term) ∧ w'.cell? ⟨w.heap.size, 0, none⟩ = some (.int .i64 b.kind) ∧ w'.cell? ⟨w.heap.size, 1, none⟩ = some (.int .i64 b.frm) ∧ w'.cell? ⟨w.heap.size, 2, none⟩ = some (.int .i64 b.to) ∧ w'.cell? ⟨w.heap.size, 3, none⟩ = some (.int .i64 b.term) ∧ w'.cell? ⟨w.heap.size, 4, none⟩ = some (.int .i64 b.idx) ∧ w'.cell? ⟨w.heap.size, 5, none⟩ = some (.int .i64 b.lt) ∧ w'.cell? ⟨w.heap.size, 6, none⟩ = some (.bool b.yes) ∧ w'.cell? ⟨w.heap.size + 1, 0, none⟩ = some (.int .i64 last) ∧ w'.cell? ⟨w.heap.size + 1, 1, none⟩ = some (.int .i64 lt)) (first | exact ⟨by assumption, by assumption, by assumption, by assumption, by assumption, by assumption, by assumption, by assumption, by assumption, by assumption⟩ | go_keep) (first
            | (go_at_call 62; refine (HN.out _).mono ?_; rintro e w3 ⟨rfl, hb3⟩; have HB3 := Lib.hid ((below_d1 wa).trans hb3); have dc2 := (hb3.cell (lt_of_cell (show World.cell? _ _ = some _ from c2))).trans c2; have db0 := (hb3.cell (lt_of_cell (show World.cell? _ _ = some _ from b0))).trans b0; have db1 := (hb3.cell (lt_of_cell (show World.cell? _ _ = some _ from b1))).trans b1; have db2 := (hb3.cell (lt_of_cell (show World.cell? _ _ = some _ from b2))).trans b2; have db3 := (hb3.cell (lt_of_cell (show World.cell? _ _ = some _ from b3))).trans b3; have db4 := (hb3.cell (lt_of_cell (show World.cell? _ _ = some _ from b4))).trans b4; have db5 := (hb3.cell (lt_of_cell (show World.cell? _ _ = some _ from b5))).trans b5; have db6 := (hb3.cell (lt_of_cell (show World.cell? _ _ = some _ from b6))).trans b6; have do0 := (hb3.cell (lt_of_cell (show World.cell? _ _ = some _ from o0))).trans o0; have do1 := (hb3.cell (lt_of_cell (show World.cell? _ _ = some _ from o1))).trans o1; clear hb3))
          all_goals
            go_wp2_with fail
            go_meet
            exact ⟨by rw [HG.out], HB3.out⟩
        · have d1 : decide (s.term < b.term) = false := decide_eq_false ht
          have HG := Lib.hid (show gr = false by rw [← hgr, d1]; simp)
          clear hgr ht
          go_quiet (fail)
          go_wp2_with fail
          go_meet
          exact ⟨by rw [HG.out], by simpa using below_dr wa _⟩
    case rest =>
      obtain ⟨rfl, hbw⟩ := hcut
      have HB2 := Lib.hid (HB1.out.trans (hbw.mono HB1.out.size))
      clear hbw
      obtain ⟨wd, rfl⟩ : ∃ wd, wd = wc := ⟨_, rfl⟩
      clear c2 b0 b1 b2 b3 b4 b5 b6 o0 o1
      have hi2 := HIS.out wd HB2.out
      have hk := HBR.out wd HB2.out
      have c0 := hi2.blk.cells.1
      have c2 := hi2.blk.cells.2.2.1
      have b1 := hk.1.cell 1 (.int .i64 b.frm) rfl
      have b3 := hk.1.cell 3 (.int .i64 b.term) rfl
      have HD2 := Lib.hid (HD.out wd HB2.out)
      clear hi2 hk
      cases gr with
      | true =>
        have HX := Lib.hid (show preB s b last lt = ⟨2, s.id, b.frm, b.term, 0, 0, true⟩ by rw [HP.out, HY.out]; rfl)
        go_wp2_with fail
        go_region
        go_wp2
        go_ret
        exact ⟨_, rfl, by rw [HX.out]; exact Ans.one (HD2.out.to (below_d1 wd)) ⟨2, s.id, b.frm, b.term, 0, 0, true⟩⟩
      | false =>
        have HX := Lib.hid (show preB s b last lt = ⟨2, s.id, b.frm, s.term, 0, 0, false⟩ by rw [HP.out, HY.out]; rfl)
        go_wp2_with fail
        go_region
        go_wp2
        go_ret
        exact ⟨_, rfl, by rw [HX.out]; exact Ans.one (HD2.out.to (below_d1 wd)) ⟨2, s.id, b.frm, s.term, 0, 0, false⟩⟩
end Go.Proofs.Ytjajgjpkiofhmaa.El
