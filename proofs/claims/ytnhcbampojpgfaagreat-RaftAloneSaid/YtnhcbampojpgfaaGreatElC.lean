/-
  Layer 10, in the program: record, grant, newer, validHard. Conditions: as each theorem states.
-/
import Derived.Test.YtnhcbampojpgfaaGreatElB
import Derived.Test.YtnhcbampojpgfaaGreatElRow
namespace Go.Proofs.YtnhcbampojpgfaaGreat.El
open Go.RowKit Go.Proofs.YtnhcbampojpgfaaGreat.Qu Go.Proofs.YtnhcbampojpgfaaGreat.Fld
set_option linter.unusedVariables false

theorem setA_twice (am : Int → Int) (k v u : Int) : setA (setA am k v) k u = setA am k u := by
  funext x
  unfold setA
  by_cases h : x = k <;> simp [h]
set_option maxRecDepth 100000 in
set_option maxHeartbeats 1600000 in
theorem record_any (p : Pl) (s : St) (b : Bal) (w : World) (h : Im w p s) (hb : okNode b.frm = true) : Calls Tryz.prog 264 #[.pointer (some ⟨p.g, 0, none⟩), b.val] w fun e w' => e = .returned (.int .i64 (outN s.vs (recA s.am b))) ∧ Did w w' p (recS s b) := by
  have hbf := (okNode_iff _).1 hb
  have hal := alloc_below w (.cells (ballC b) 144)
  have hi1 := h.below hal
  have hd1 := Did.same h hal
  have hk1 := Blk.new w (ballC b) 144
  unfold ballC at hal hi1 hd1 hk1
  have b1 := hk1.cell 1 (.int .i64 b.frm) rfl
  have b6 := hk1.cell 6 (.bool b.yes) rfl
  have c10 := hi1.blk.cells.2.2.2.2.2.2.2.2.2.2
  have hlook := (show MapA (w.alloc (.cells #[.int .i64 b.kind, .int .i64 b.frm, .int .i64 b.to, .int .i64 b.term, .int .i64 b.idx, .int .i64 b.lt, .bool b.yes] 144)).drew p.b s.am from hi1.map).look (k := b.frm) ⟨by omega, by omega⟩
  unfold Bal.val
  generalize hwa : w.alloc (.cells #[.int .i64 b.kind, .int .i64 b.frm, .int .i64 b.to, .int .i64 b.term, .int .i64 b.idx, .int .i64 b.lt, .bool b.yes] 144) = wa at *
  by_cases h0 : s.am b.frm = 0
  · have q0 : (s.am b.frm == 0) = true := by simp [h0]
    obtain ⟨w2, hrun2, hm2, ht2⟩ := (show MapA wa.drew.drew p.b s.am from hi1.map).store (k := b.frm) hb (v := 2) (by omega)
    have hok2 : ({ s with am := setA s.am b.frm 2 } : St).Ok := by
      have := recS_ok (b := { b with yes := false }) h.ok hb
      simpa [recS, recA, h0] using this
    have hd2 := (hd1.to (below_dr wa 2)).im.mapped ht2 (s' := { s with am := setA s.am b.frm 2 }) hm2 rfl rfl rfl hok2
    have HD2 := Lib.hid ((hd1.to (below_dr wa 2)).then hd2)
    have hk2 : Blk w2 w.heap.size (ballC b) 144 := (ht2.grown.block _ (by show w.heap.size < wa.heap.size; have := hk1.lt; exact this) (by intro he; injection he with he; have := h.map.lt; omega)).trans hk1
    unfold ballC at hk2
    have e6 := hk2.cell 6 (.bool b.yes) rfl
    have e1 := hk2.cell 1 (.int .i64 b.frm) rfl
    have e10 := hd2.im.blk.cells.2.2.2.2.2.2.2.2.2.2
    cases hy : b.yes with
    | false =>
      have HR := Lib.hid (show recA s.am b = setA s.am b.frm 2 by unfold recA; rw [if_pos h0, hy]; rfl)
      have HO := Lib.hid (outcome_any p { s with am := setA s.am b.frm 2 } w2 hd2.im)
      rw [hy] at e6 b6 hwa
      subst hwa
      clear h hal hi1 hd1 hk1 hm2 ht2 hd2 hk2 hok2
      go_enter Tryz.func264, Tryz.ntmps264
      go_wp2_with fail
      go_region
      go_wp2_with fail
      go_region
      go_wp2_with fail
      refine HO.out.mono ?_
      rintro e w3 ⟨rfl, hb3⟩
      have HD3 := Lib.hid (HD2.out.to hb3)
      clear hb3
      go_wp2
      go_ret
      refine ⟨by rw [HR.out]; rfl, ?_⟩
      unfold recS
      rw [HR.out]
      exact HD3.out
    | true =>
      have HR := Lib.hid (show recA s.am b = setA s.am b.frm 1 by unfold recA; rw [if_pos h0, hy]; rfl)
      obtain ⟨w3, hrun3, hm3, ht3⟩ := (show MapA w2.drew p.b (setA s.am b.frm 2) from hm2).store (k := b.frm) hb (v := 1) (by omega)
      rw [setA_twice] at hm3
      have hok3 : ({ s with am := setA s.am b.frm 1 } : St).Ok := by
        have := recS_ok (b := { b with yes := true }) h.ok hb
        simpa [recS, recA, h0] using this
      have hd3 := (HD2.out.to (below_dr w2 1)).im.mapped ht3 (s' := { s with am := setA s.am b.frm 1 }) hm3 rfl rfl rfl hok3
      have HD3 := Lib.hid ((HD2.out.to (below_dr w2 1)).then hd3)
      have HO := Lib.hid (outcome_any p { s with am := setA s.am b.frm 1 } w3 hd3.im)
      rw [hy] at e6 b6 hwa
      subst hwa
      clear h hal hi1 hd1 hk1 hm2 ht2 hd2 hk2 hok2 hm3 ht3 hok3 hd3
      go_enter Tryz.func264, Tryz.ntmps264
      go_wp2_with fail
      go_region
      go_wp2_with fail
      go_region
      go_wp2_with fail
      go_region
      go_wp2_with fail
      refine HO.out.mono ?_
      rintro e w4 ⟨rfl, hb4⟩
      have HD4 := Lib.hid (HD3.out.to hb4)
      clear hb4
      go_wp2
      go_ret
      refine ⟨by rw [HR.out]; rfl, ?_⟩
      unfold recS
      rw [HR.out]
      exact HD4.out
  · have q0 : (s.am b.frm == 0) = false := by simp [h0]
    have HR := Lib.hid (show recA s.am b = s.am by unfold recA; rw [if_neg h0])
    have HO := Lib.hid (outcome_any p s wa.drew (hd1.to (below_dr wa 1)).im)
    have HD := Lib.hid (hd1.to (below_dr wa 1))
    subst hwa
    clear h hal hi1 hd1 hk1
    go_enter Tryz.func264, Tryz.ntmps264
    go_wp2_with fail
    go_region
    go_wp2_with fail
    refine HO.out.mono ?_
    rintro e w3 ⟨rfl, hb3⟩
    have HD3 := Lib.hid (HD.out.to hb3)
    clear hb3
    go_wp2
    go_ret
    refine ⟨by rw [HR.out]; rfl, ?_⟩
    unfold recS
    rw [HR.out]
    exact HD3.out
set_option maxHeartbeats 800000 in
theorem grant_any (p : Pl) (s : St) (b : Bal) (w : World) (h : Im w p s) (hb : okNode b.frm = true) : Calls Tryz.prog 265 #[.pointer (some ⟨p.g, 0, none⟩), .int .i64 b.frm] w fun e w' => e = .returned (.tuple #[]) ∧ Did w w' p (grant s b) := by
  have hg := grant_ok h.ok hb
  have h1 := h.set 3 (.int .i64 b.frm) (s' := { s with vote := b.frm }) rfl (by omega) rfl rfl rfl ⟨h.ok.id1, hg.hard, h.ok.grp, h.ok.pat1, h.ok.w0, h.ok.lm, h.ok.role, h.ok.lead, h.ok.am⟩
  have h2 := h1.im.set 8 (.int .i64 0) (s' := { s with vote := b.frm, wait := 0 }) rfl (by omega) rfl rfl rfl ⟨h.ok.id1, hg.hard, h.ok.grp, h.ok.pat1, Int.le_refl _, h.ok.lm, h.ok.role, h.ok.lead, h.ok.am⟩
  have HD2 := Lib.hid (h1.then h2)
  obtain ⟨_, _, _, c3, _, _, c6, _, c8, _, _⟩ := h.blk.cells
  have f3 := Blk.free h.blk 3
  have f8 := Blk.free h1.im.blk 8
  have e6 := h2.im.blk.cells.2.2.2.2.2.2.1
  have f6 := Blk.free h2.im.blk 6
  by_cases hr : s.role = 1
  · have q1 : (s.role == 1) = true := by simp [hr]
    have h3 := h2.im.set 6 (.int .i64 0) (s' := { s with vote := b.frm, wait := 0, role := 0 }) rfl (by omega) rfl rfl rfl (role_ok h2.im.ok (by omega))
    have HD3 := Lib.hid ((h1.then h2).then h3)
    have HG := Lib.hid (show grant s b = { s with vote := b.frm, wait := 0, role := 0 } by unfold grant; rw [if_pos hr])
    clear h h1 h2 h3 hg hr
    go_enter Tryz.func265, Tryz.ntmps265
    go_wp2
    go_end0
    exact ⟨rfl, by rw [HG.out]; exact HD3.out⟩
  · have q1 : (s.role == 1) = false := by simp [hr]
    have HG := Lib.hid (show grant s b = { s with vote := b.frm, wait := 0 } by unfold grant; rw [if_neg hr])
    clear h h1 h2 hg hr
    go_enter Tryz.func265, Tryz.ntmps265
    go_wp2
    go_end0
    exact ⟨rfl, by rw [HG.out]; exact HD2.out⟩
def entV (last lt : Int) : Value := .agg #[.int .i64 last, .int .i64 lt]
set_option maxHeartbeats 800000 in
theorem newer_any (last lt : Int) (b : Bal) (w : World) : Calls Tryz.prog 263 #[entV last lt, b.val] w fun e w' => e = .returned (.bool (newer last lt b)) ∧ Below w.heap.size w w' := by
  have hal := alloc_below w (.cells #[.int .i64 last, .int .i64 lt] 168)
  have HB := Lib.hid (hal.trans ((alloc_below (w.alloc (.cells #[.int .i64 last, .int .i64 lt] 168)) (.cells (ballC b) 144)).mono hal.size))
  have he := (Blk.new w #[.int .i64 last, .int .i64 lt] 168).past (.cells (ballC b) 144)
  have hb := Blk.new (w.alloc (.cells #[.int .i64 last, .int .i64 lt] 168)) (ballC b) 144
  unfold ballC at HB he hb
  have e0 := he.cell 0 (.int .i64 last) rfl
  have e1 := he.cell 1 (.int .i64 lt) rfl
  have b4 := hb.cell 4 (.int .i64 b.idx) rfl
  have b5 := hb.cell 5 (.int .i64 b.lt) rfl
  have HN := Lib.hid (show newer last lt b = (decide (b.lt < lt) || (decide (lt = b.lt) && decide (b.idx < last))) from rfl)
  unfold entV Bal.val
  clear hal he hb
  by_cases h1 : b.lt < lt
  · have d1 : decide (b.lt < lt) = true := decide_eq_true h1
    go_enter Tryz.func263, Tryz.ntmps263
    go_wp2
    go_ret
    exact ⟨by rw [HN.out]; simp [h1], HB.out⟩
  · have d1 : decide (b.lt < lt) = false := decide_eq_false h1
    by_cases h2 : lt = b.lt
    · have d2 : (lt == b.lt) = true := by simp [h2]
      by_cases h3 : b.idx < last
      · have d3 : decide (b.idx < last) = true := decide_eq_true h3
        have HN2 := Lib.hid (show newer last lt b = true by rw [HN.out, d3]; simp [h2])
        clear h2 HN
        go_enter Tryz.func263, Tryz.ntmps263
        go_wp2
        go_ret
        exact ⟨by rw [HN2.out]; simp_all, HB.out⟩
      · have d3 : decide (b.idx < last) = false := decide_eq_false h3
        have HN2 := Lib.hid (show newer last lt b = false by rw [HN.out, d3, d1]; simp)
        clear h2 HN
        go_enter Tryz.func263, Tryz.ntmps263
        go_wp2
        go_ret
        exact ⟨by rw [HN2.out]; simp_all, HB.out⟩
    · have d2 : (lt == b.lt) = false := by simp [h2]
      have HN2 := Lib.hid (show newer last lt b = false by rw [HN.out, d1]; simp [h2])
      clear h2 HN
      go_enter Tryz.func263, Tryz.ntmps263
      go_wp2
      go_ret
      exact ⟨by rw [HN2.out]; simp_all, HB.out⟩
theorem validHard_any (t v : Int) (w : World) : Calls Tryz.prog 94 #[.agg #[.int .i64 t, .int .i64 v]] w fun e w' => e = .returned (.bool (okHard t v)) ∧ Below w.heap.size w w' := by
  have HB := Lib.hid (alloc_below w (.cells #[.int .i64 t, .int .i64 v] 51))
  have hk := Blk.new w #[.int .i64 t, .int .i64 v] 51
  have c0 := hk.cell 0 (.int .i64 t) rfl
  have c1 := hk.cell 1 (.int .i64 v) rfl
  have HT := Lib.hid (fun W => validTerm_any t W)
  have HV := Lib.hid (fun W => validNode_any v W)
  have HH := Lib.hid (show okHard t v = (okTerm t && (decide (v = 0) || okNode v)) from rfl)
  clear hk
  cases ht : okTerm t with
  | false =>
    rw [ht] at HT
    go_enter Tryz.func94, Tryz.ntmps94
    go_wp2_with (go_at_call 172; refine (HT.out _).mono ?_; rintro e w' ⟨rfl, rfl⟩)
    go_ret
    exact ⟨by rw [HH.out, ht]; rfl, HB.out⟩
  | true =>
    rw [ht] at HT
    by_cases hv : v = 0
    · have q : (v == 0) = true := by simp [hv]
      have HH2 := Lib.hid (show okHard t v = true by rw [HH.out, ht]; simp [hv])
      clear hv
      go_enter Tryz.func94, Tryz.ntmps94
      go_wp2_with (go_at_call 172; refine (HT.out _).mono ?_; rintro e w' ⟨rfl, rfl⟩)
      go_ret
      exact ⟨by rw [HH2.out]; simp_all, HB.out⟩
    · have q : (v == 0) = false := by simp [hv]
      have HH2 := Lib.hid (show okHard t v = okNode v by rw [HH.out, ht]; simp [hv])
      clear hv
      go_enter Tryz.func94, Tryz.ntmps94
      go_wp2_with (first | (go_at_call 172; refine (HT.out _).mono ?_; rintro e w' ⟨rfl, rfl⟩) | (go_at_call 93; refine (HV.out _).mono ?_; rintro e w' ⟨rfl, rfl⟩))
      go_ret
      exact ⟨by rw [HH2.out]; simp_all, HB.out⟩
end Go.Proofs.YtnhcbampojpgfaaGreat.El
