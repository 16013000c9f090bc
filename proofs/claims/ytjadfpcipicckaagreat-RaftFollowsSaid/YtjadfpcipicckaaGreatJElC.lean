/-
  Several texts in one: Layer 10, in the program: record, grant, newer, validHard. Conditions: as each theorem states. Layer 10, in the program: askAll. Conditions: as each theorem states.
-/
import Derived.Test.YtjadfpcipicckaaGreatJElA
import Derived.Test.YtjadfpcipicckaaGreatJElRow
namespace Go.Proofs.YtjadfpcipicckaaGreat.El
open Go.RowKit Go.Proofs.YtjadfpcipicckaaGreat.Qu Go.Proofs.YtjadfpcipicckaaGreat.Fld
set_option linter.unusedVariables false

theorem setA_twice (am : Int → Int) (k v u : Int) : setA (setA am k v) k u = setA am k u := by
  funext x
  unfold setA
  by_cases h : x = k <;> simp [h]
def entV (last lt : Int) : Value := .agg #[.int .i64 last, .int .i64 lt]
theorem validHard_any (t v : Int) (w : World) : Calls Tryz.prog 39 #[.agg #[.int .i64 t, .int .i64 v]] w fun e w' => e = .returned (.bool (okHard t v)) ∧ Below w.heap.size w w' := by
  have HB := Lib.hid (alloc_below w (.cells #[.int .i64 t, .int .i64 v] 23))
  have hk := Blk.new w #[.int .i64 t, .int .i64 v] 23
  have c0 := hk.cell 0 (.int .i64 t) rfl
  have c1 := hk.cell 1 (.int .i64 v) rfl
  have HT := Lib.hid (fun W => validTerm_any t W)
  have HV := Lib.hid (fun W => validNode_any v W)
  have HH := Lib.hid (show okHard t v = (okTerm t && (decide (v = 0) || okNode v)) from rfl)
  clear hk
  cases ht : okTerm t with
  | false =>
    rw [ht] at HT
    go_enter Tryz.func39, Tryz.ntmps39
    go_wp2_with (go_at_call 79; refine (HT.out _).mono ?_; rintro e w' ⟨rfl, rfl⟩)
    go_ret
    exact ⟨by rw [HH.out, ht]; rfl, HB.out⟩
  | true =>
    rw [ht] at HT
    by_cases hv : v = 0
    · have q : (v == 0) = true := by simp [hv]
      have HH2 := Lib.hid (show okHard t v = true by rw [HH.out, ht]; simp [hv])
      clear hv
      go_enter Tryz.func39, Tryz.ntmps39
      go_wp2_with (go_at_call 79; refine (HT.out _).mono ?_; rintro e w' ⟨rfl, rfl⟩)
      go_ret
      exact ⟨by rw [HH2.out]; simp_all, HB.out⟩
    · have q : (v == 0) = false := by simp [hv]
      have HH2 := Lib.hid (show okHard t v = okNode v by rw [HH.out, ht]; simp [hv])
      clear hv
      go_enter Tryz.func39, Tryz.ntmps39
      go_wp2_with (first | (go_at_call 79; refine (HT.out _).mono ?_; rintro e w' ⟨rfl, rfl⟩) | (go_at_call 38; refine (HV.out _).mono ?_; rintro e w' ⟨rfl, rfl⟩))
      go_ret
      exact ⟨by rw [HH2.out]; simp_all, HB.out⟩
end Go.Proofs.YtjadfpcipicckaaGreat.El

namespace Go.Proofs.YtjadfpcipicckaaGreat.El
open Go.RowKit Go.Proofs.YtjadfpcipicckaaGreat.Qu Go.Proofs.YtjadfpcipicckaaGreat.Fld
set_option linter.unusedVariables false

def askL (s : St) (kind term last lt : Int) (l : List Int) : List Bal := (l.filter fun v => decide (v ≠ s.id)).map (askB s kind term last lt)
theorem askL_take (s : St) (kind term last lt : Int) (l : List Int) (k : Nat) (h : k < l.length) : askL s kind term last lt (l.take (k + 1)) = askL s kind term last lt (l.take k) ++ (if l.getD k 0 = s.id then [] else [askB s kind term last lt (l.getD k 0)]) := by
  unfold askL
  rw [take_succ l k h, List.filter_append, List.map_append]
  congr 1
  generalize l.getD k 0 = y
  by_cases hn : y = s.id
  · rw [if_pos hn, List.filter_cons, if_neg (by simpa using hn)]; rfl
  · rw [if_neg hn, List.filter_cons, if_pos (by simpa using hn)]; rfl
theorem askL_len (s : St) (kind term last lt : Int) (l : List Int) : (askL s kind term last lt l).length ≤ l.length := by
  unfold askL
  rw [List.length_map]
  exact List.length_filter_le _ _
theorem grp_len {vs ls : List Int} (h : grpOk vs ls = true) : vs.length ≤ 15 ∧ ls.length ≤ 15 := by
  obtain ⟨_, h1, h2, _⟩ := (grpOk_iff vs ls).1 h
  have := upN_len vs 0 h1 (by omega)
  have := upN_len ls 0 h2 (by omega)
  omega
set_option maxRecDepth 100000 in
set_option maxHeartbeats 3200000 in
theorem askAll_any (p : Pl) (s : St) (kind term last lt : Int) (w : World) (h : Im w p s) : Calls Tryz.prog 110 #[.pointer (some ⟨p.g, 0, none⟩), .int .i64 kind, .int .i64 term, entV last lt] w fun e w' => ∃ v, e = .returned v ∧ OwnB w w' v (askAll s kind term last lt) := by
  have hal := alloc_below w (.cells #[.int .i64 last, .int .i64 lt] 130)
  have HAL := Lib.hid hal
  have hi := h.below hal
  have HIM := Lib.hid hi
  have hk := Blk.new w #[.int .i64 last, .int .i64 lt] 130
  have HK := Lib.hid hk
  have hlen := (grp_len h.ok.grp).1
  have HT := Lib.hid (askL_take s kind term last lt s.vs)
  have HLE := Lib.hid (askL_len s kind term last lt)
  have c4 := hi.blk.cells.2.2.2.2.1
  have c5 := hi.blk.cells.2.2.2.2.2.1
  unfold entV
  have HQ := Lib.hid (show askAll s kind term last lt = askL s kind term last lt s.vs from rfl)
  rw [HQ.out]
  generalize hvn : s.vs.length = vn at *
  have HVN := Lib.hid hvn
  generalize hva : p.VA = VA at *
  have HVA := Lib.hid hva
  clear h hi hal hk hvn hva
  go_enter Tryz.func110, Tryz.ntmps110
  go_wp2_with fail
  go_loopw [9, 18] (fun v i wr => ∃ k : Nat, k ≤ vn ∧ i = .int .i64 k ∧ OwnB (w.alloc (.cells #[.int .i64 last, .int .i64 lt] 130)) wr v (askL s kind term last lt (s.vs.take k))) (fun _ i _ => vn - (intOf i).toNat)
  case atStart => exact ⟨0, Nat.zero_le _, rfl, OwnB.nil _ _ (Below.refl _ _)⟩
  case round =>
    obtain ⟨k, hk, rfl, hO⟩ := hrel
    have HO := Lib.hid hO
    have HI := Lib.hid (HIM.out.below hO.1)
    have HE := Lib.hid (HK.out.below hO.1)
    clear hO
    have c0 := HI.out.blk.cells.1
    have e0 := HE.out.cell 0 (.int .i64 last) rfl
    have e1 := HE.out.cell 1 (.int .i64 lt) rfl
    by_cases hlt : k < vn
    · have hvs := HI.out.vs
      rw [HVN.out, HVA.out] at hvs
      obtain ⟨b, off, rfl, hcell⟩ := hvs.2.2 (by omega)
      have hc := hcell k hlt
      have HT1 := Lib.hid (HT.out k hlt)
      have hle := Nat.le_trans (HLE.out (s.vs.take k)) (show (s.vs.take k).length ≤ vn by rw [List.length_take, HVN.out]; omega)
      generalize s.vs.getD k 0 = y at *
      generalize hrr : askL s kind term last lt (s.vs.take k) = rr at *
      clear hvs hcell
      by_cases hxy : y = s.id
      · have q1 : (y != s.id) = false := by simpa using hxy
        have HT2 := Lib.hid (show askL s kind term last lt (s.vs.take (k + 1)) = rr by rw [HT1.out, if_pos hxy]; simp)
        clear hxy
        go_wp2_with fail
        go_roundw
        case rel => exact ⟨k + 1, by omega, by go_num, by rw [HT2.out]; exact HO.out⟩
        case measure => simp [intOf]; omega
      · have q1 : (y != s.id) = true := by simpa using hxy
        have HT2 := Lib.hid (show askL s kind term last lt (s.vs.take (k + 1)) = rr ++ [askB s kind term last lt y] by rw [HT1.out, if_neg hxy])
        obtain ⟨RA, rc, rfl, _, _, _, hrn⟩ := row_slice HO.out.2
        clear hxy
        go_wp2_with fail
        go_region_held3 (fun w' => w'.cell? ⟨p.g, 0, none⟩ = some (.int .i64 s.id) ∧ w'.cell? ⟨w.heap.size, 0, none⟩ = some (.int .i64 last) ∧ w'.cell? ⟨w.heap.size, 1, none⟩ = some (.int .i64 lt)) (first | exact ⟨by assumption, by assumption, by assumption⟩ | go_keep) (first
          | (refine step_append_rowB rfl _ _ rfl (w.alloc (.cells #[.int .i64 last, .int .i64 lt] 130)).heap.size (.slice RA rr.length rc) rr.length (rowB rr) rfl (by exact (HO.out.below (alloc_below wr _).drew).2) (some ⟨wr.heap.size, 0, none⟩) 1 1 [askB s kind term last lt y] rfl (by exact rdB_one (Blk.new wr (ballC (askB s kind term last lt y)) 125)) (fun h => by cases h) (by omega) (by have := HO.out.1.size; simp at *; omega) ?_; intro v3 w3 hr3 hg3 ha3; have HO3 := Lib.hid (HO.out.push (ys := [askB s kind term last lt y]) (alloc_below wr (.cells (ballC (askB s kind term last lt y)) 125)).drew hg3 hr3); have HI3 := Lib.hid (HIM.out.below HO3.out.1); have HE3 := Lib.hid (HK.out.below HO3.out.1); have d0 := HI3.out.blk.cells.1; have g0 := HE3.out.cell 0 (.int .i64 last) rfl; have g1 := HE3.out.cell 1 (.int .i64 lt) rfl; clear hr3 hg3 ha3))
        all_goals
          go_wp2_with fail
          go_roundw
          case rel => exact ⟨k + 1, by omega, by go_num, by rw [HT2.out]; exact HO3.out⟩
          case measure => simp [intOf]; omega
    · obtain rfl : k = vn := by omega
      have HF := Lib.hid (show s.vs.take k = s.vs by rw [← HVN.out, List.take_length])
      rw [HF.out] at HO
      go_wp2
      go_ret
      exact ⟨_, rfl, HO.out.since HAL.out⟩
end Go.Proofs.YtjadfpcipicckaaGreat.El
