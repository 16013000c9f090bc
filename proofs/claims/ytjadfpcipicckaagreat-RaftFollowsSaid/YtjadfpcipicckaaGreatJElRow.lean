/-
  Several texts in one: Layer 10: rows of ballots of a call's own, and append onto them. Conditions: as each theorem states. Layer 10, in the program: record, grant, newer, validHard. Conditions: as each theorem states. Layer 10, in the program: askAll. Conditions: as each theorem states.
-/
import Derived.Test.YtjadfpcipicckaaGreatJElMem
import Derived.Deep.RegionHeld3
import Derived.Deep.RegionWith
import Derived.Deep.RegionLaw
namespace Go.Proofs.YtjadfpcipicckaaGreat.El
open Go.RowKit Go.Proofs.YtjadfpcipicckaaGreat.Qu Go.Proofs.YtjadfpcipicckaaGreat.Fld
set_option linter.unusedVariables false

theorem addB (b off j : Nat) : Addr.add (⟨b, off, none⟩ : Addr) j = ⟨b, off + j, none⟩ := by
  unfold Addr.add
  split
  · simp_all
  · rfl
theorem run_append_rowB (w : World) (ty : TypeId) (lo : Nat) (v : Value) (n : Nat) (xs : List Value) (hown : w.ownsRow lo 125 7 v n xs) (A : Option Addr) (m c : Nat) (ys : List Bal) (hr : RdB w A m ys) (hA : A = none → c = 0) (hb : n + m ≤ 2000000) (hlo : lo ≤ w.heap.size) :
    ∃ v' w', (Builtin.append_ #[85, 85] ty #[v, .slice A m c]).run Tryz.prog w = .ok v' w' ∧ w'.ownsRow lo 125 7 v' (n + m) (xs ++ rowB ys) ∧ w.grownBy w' v.ownBlock ∧ (v'.ownBlock = v.ownBlock ∨ v'.ownBlock = some w.heap.size) := by
  obtain ⟨inf, i1, i2, i3, i4⟩ := ballot_info
  cases A with
  | none =>
    have hm : m = 0 := by
      rcases Nat.eq_zero_or_pos m with h | h
      · exact h
      · obtain ⟨b, off, he, _⟩ := hr.2.2 h; cases he
    subst hm
    obtain rfl : ys = [] := List.eq_nil_of_length_eq_zero hr.1
    obtain rfl := hA rfl
    refine ⟨v, w, run_append_owned_none (P := Tryz.prog) (w := w) lo 85 ty 125 inf 7 Tryz.underlying85 i1 v n xs hown, ?_, ⟨rfl, rfl, rfl, Nat.le_refl _, fun _ _ _ => rfl⟩, .inl rfl⟩
    rw [show rowB [] = [] from rfl, List.append_nil]
    exact hown
  | some ad =>
    obtain ⟨v', w', hrun, hrow, hg, _, hat⟩ := run_append_own_at (P := Tryz.prog) w lo 85 ty 125 inf _ 7 56 Tryz.underlying85 i1 i2 i3 i4 rfl (by omega) v n xs hown ad m c (rowB ys) (by rw [rowB_len, hr.1]) (by
      intro j u hu
      have hj : j < (rowB ys).length := (List.getElem?_eq_some_iff.1 hu).1
      rw [rowB_len, hr.1] at hj
      obtain ⟨b, off, he, hc⟩ := hr.2.2 (by omega)
      cases he
      rw [addB]
      exact hc j u hu) (rowB_one ys) (by unfold maxLen; omega) (by omega) hlo
    exact ⟨v', w', hrun, hrow, hg, hat⟩
theorem wpList_append_rowB {w : World} {ops : Array Oper} {rest : List Oper} {o : Oper} {a : Act} {Q : Exit → Act → World → Prop} (hgd : o.guard = none) (s x : Operand)
    (ho : o.op = .call { callee := .builtin .append, args := #[s, x], argTypes := #[85, 85] })
    (lo : Nat) (v : Value) (n : Nat) (xs : List Value) (hs : a.eval s = v) (hown : w.ownsRow lo 125 7 v n xs)
    (A : Option Addr) (m c : Nat) (ys : List Bal) (hx : a.eval x = .slice A m c) (hr : RdB w A m ys) (hA : A = none → c = 0) (hb : n + m ≤ 2000000) (hlo : lo ≤ w.heap.size)
    (h : ∀ v' w', w'.ownsRow lo 125 7 v' (n + m) (xs ++ rowB ys) → w.grownBy w' v.ownBlock → (v'.ownBlock = v.ownBlock ∨ v'.ownBlock = some w.heap.size) → wpList Tryz.prog ops Q rest (a.put o.dst v') w') : wpList Tryz.prog ops Q (o :: rest) a w := by
  obtain ⟨v', w', hrun, h1, h2, h3⟩ := run_append_rowB w o.type lo v n xs hown A m c ys hr hA hb hlo
  refine wpList_plain hgd fun K' hK' => ?_
  unfold Oper.wp execOp
  simp only [ho, resolve, invoke, builtin, Sem.run_bind, Sem.run_pure, Result.andThen_ok, List.map_toArray, List.map_cons, List.map_nil, hs, hx, hrun]
  exact hK' _ _ (h v' w' h1 h2 h3)
theorem step_append_rowB {w : World} {ops : Array Oper} {o : Oper} {a : Act} {K : Act → World → Prop} {Q : Exit → Act → World → Prop} {E : Prop} (hgd : o.guard = none) (s x : Operand)
    (ho : o.op = .call { callee := .builtin .append, args := #[s, x], argTypes := #[85, 85] })
    (lo : Nat) (v : Value) (n : Nat) (xs : List Value) (hs : a.eval s = v) (hown : w.ownsRow lo 125 7 v n xs)
    (A : Option Addr) (m c : Nat) (ys : List Bal) (hx : a.eval x = .slice A m c) (hr : RdB w A m ys) (hA : A = none → c = 0) (hb : n + m ≤ 2000000) (hlo : lo ≤ w.heap.size)
    (h : ∀ v' w', w'.ownsRow lo 125 7 v' (n + m) (xs ++ rowB ys) → w.grownBy w' v.ownBlock → (v'.ownBlock = v.ownBlock ∨ v'.ownBlock = some w.heap.size) → K (a.put o.dst v') w') :
    if Region.wanted o (yielded ops a.tmps) = true then Oper.wp Tryz.prog o a w K Q else E := by
  have hw : Region.wanted o (yielded ops a.tmps) = true := by simp [Region.wanted, hgd]
  rw [if_pos hw]
  obtain ⟨v', w', hrun, h1, h2, h3⟩ := run_append_rowB w o.type lo v n xs hown A m c ys hr hA hb hlo
  unfold Oper.wp execOp
  simp only [ho, resolve, invoke, builtin, Sem.run_bind, Sem.run_pure, Result.andThen_ok, List.map_toArray, List.map_cons, List.map_nil, hs, hx, hrun]
  exact h v' w' h1 h2 h3
theorem row_lo {w : World} {base size n : Nat} {ety : TypeId} {v : Value} {xs : List Value} (h : w.ownsRow base ety size v n xs) : ∀ i, v.ownBlock = some i → base ≤ i ∧ i < w.heap.size := by
  intro i he
  rcases h.2 with ⟨rfl, _⟩ | ⟨g, cap, cur, rfl, hg, hq, _⟩
  · cases he
  · cases he
    exact ⟨hg, (Array.getElem?_eq_some_iff.1 hq).1⟩
theorem row_of {w w' : World} {base size n : Nat} {ety : TypeId} {v : Value} {xs : List Value} (h : w.ownsRow base ety size v n xs) (hb : ∀ i, v.ownBlock = some i → w'.heap[i]? = w.heap[i]?) : w'.ownsRow base ety size v n xs := by
  obtain ⟨h1, h2⟩ := h
  refine ⟨h1, ?_⟩
  rcases h2 with h2 | ⟨q, cap, cur, hv, hg, hq, r⟩
  · exact .inl h2
  · exact .inr ⟨q, cap, cur, hv, hg, (hb q (by rw [hv]; rfl)).trans hq, r⟩
theorem row_lower {w : World} {base base' size n : Nat} {ety : TypeId} {v : Value} {xs : List Value} (h : w.ownsRow base ety size v n xs) (hb : base' ≤ base) : w.ownsRow base' ety size v n xs := by
  refine ⟨h.1, ?_⟩
  rcases h.2 with h | ⟨q, cap, cur, hv, hg, r⟩
  · exact .inl h
  · exact .inr ⟨q, cap, cur, hv, Nat.le_trans hb hg, r⟩
theorem row_slice {w : World} {base size n : Nat} {ety : TypeId} {v : Value} {xs : List Value} (h : w.ownsRow base ety size v n xs) : ∃ A cap, v = .slice A n cap ∧ (∀ a, A = some a → a.spot = none ∧ a.off = 0) ∧ n ≤ cap ∧ cap ≤ maxLen ∧ (A = none → cap = 0 ∧ n = 0) := by
  rcases h.2 with ⟨rfl, rfl⟩ | ⟨q, cap, cur, rfl, hg, hq, hn, hm, _⟩
  · exact ⟨none, 0, rfl, (fun a h => by cases h), by omega, by unfold maxLen; omega, fun _ => ⟨rfl, rfl⟩⟩
  · exact ⟨_, cap, rfl, (fun a h => by cases h; exact ⟨rfl, rfl⟩), hn, hm, fun h => by cases h⟩
theorem row_ne {w : World} {base size n B : Nat} {ety ty : TypeId} {v : Value} {xs : List Value} {cs : Array Value} (h : w.ownsRow base ety size v n xs) (hB : Blk w B cs ty) (ht : ety ≠ ty) : v.ownBlock ≠ some B := by
  intro he
  rcases h.2 with ⟨rfl, _⟩ | ⟨g, cap, cur, rfl, _, hg, _⟩
  · cases he
  · cases he
    unfold Blk at hB
    rw [hB] at hg
    cases hg
    exact ht rfl
theorem row_nil (w : World) (lo : Nat) (ety : TypeId) (size : Nat) : w.ownsRow lo ety size (.slice none 0 0) 0 [] := ⟨by simp, .inl ⟨rfl, rfl⟩⟩
/-- a row's cells -/
theorem row_cells {w : World} {lo n g cap size : Nat} {ety : TypeId} {xs : List Value} (h : w.ownsRow lo ety size (.slice (some ⟨g, 0, none⟩) n cap) n xs) : ∀ j v, xs[j]? = some v → w.cell? ⟨g, j, none⟩ = some v ∧ w.frozen? ⟨g, j, none⟩ = false := by
  intro j v hj
  rcases h.2 with ⟨h, _⟩ | ⟨g', cap', cur, he, hg, hh, h4, h5, h6, h7⟩
  · cases h
  · injection he with e1 e2 e3
    injection e1 with e1
    injection e1 with e1
    subst e1 e3
    refine ⟨?_, frozen_of_row w g j cur _ hh⟩
    rw [cell_of_row w g j cur _ (0, 0) hh]
    rw [← h7, List.getElem?_take] at hj
    split at hj
    · rw [Array.getElem?_toList] at hj; exact hj
    · cases hj
/-- v is a slice of the ballots l in memory of the call's own, made behind w0; what was there at w0 is as it was -/
def OwnB (w0 w : World) (v : Value) (l : List Bal) : Prop := Below w0.heap.size w0 w ∧ w.ownsRow w0.heap.size 125 7 v l.length (rowB l)
theorem OwnB.nil (w0 w : World) (hb : Below w0.heap.size w0 w) : OwnB w0 w (.slice none 0 0) [] := ⟨hb, row_nil _ _ _ _⟩
theorem OwnB.below {w0 w w' : World} {v : Value} {l : List Bal} (h : OwnB w0 w v l) (hb : Below w.heap.size w w') : OwnB w0 w' v l :=
  ⟨h.1.trans (hb.mono h.1.size), row_of h.2 fun i hi => hb.block i (row_lo h.2 i hi).2⟩
theorem OwnB.since {w0 w1 w : World} {v : Value} {l : List Bal} (h : OwnB w1 w v l) (hb : Below w0.heap.size w0 w1) : OwnB w0 w v l := ⟨hb.trans (h.1.mono hb.size), row_lower h.2 hb.size⟩
theorem rowB_read {w : World} {lo n cap : Nat} {A : Option Addr} {l : List Bal} (h : w.ownsRow lo 125 7 (.slice A n cap) n (rowB l)) : RdB w A n l := by
  have hl : l.length = n := by have := h.1; rw [rowB_len] at this; omega
  refine ⟨hl, by obtain ⟨_, _, he, _, h1, h2, _⟩ := row_slice h; cases he; omega, fun hn => ?_⟩
  rcases h.2 with ⟨_, h0⟩ | ⟨g', cap', cur, he, hg, hh, h4, h5, h6, h7⟩
  · omega
  · cases he
    refine ⟨g', 0, rfl, fun j v hj => ?_⟩
    rw [Nat.zero_add]
    exact (row_cells h j v hj).1
theorem OwnB.push {w0 w W w3 : World} {v v' : Value} {l ys : List Bal} (h : OwnB w0 w v l) (hW : Below w.heap.size w W) (hg : W.grownBy w3 v.ownBlock) (hr : w3.ownsRow w0.heap.size 125 7 v' (l.length + ys.length) (rowB l ++ rowB ys)) : OwnB w0 w3 v' (l ++ ys) := by
  have hb : Below w0.heap.size w0 W := h.1.trans (hW.mono h.1.size)
  refine ⟨hb.grown hg hb.size fun r hr' => (row_lo h.2 r hr').1, ?_⟩
  rw [List.length_append, rowB_append]
  exact hr
def ballC (x : Bal) : Array Value := #[.int .i64 x.kind, .int .i64 x.frm, .int .i64 x.to, .int .i64 x.term, .int .i64 x.idx, .int .i64 x.lt, .bool x.yes]
theorem rdB_one {w : World} {g : Nat} {x : Bal} (h : Blk w g (ballC x) 125) : RdB w (some ⟨g, 0, none⟩) 1 [x] := by
  refine ⟨rfl, by unfold maxLen; omega, fun _ => ⟨_, 0, rfl, fun j v hj => ?_⟩⟩
  rw [Nat.zero_add]
  refine Blk.cell h j v ?_
  rw [← Array.getElem?_toList]
  show (x.cells)[j]? = some v
  simpa [rowB] using hj
/-- one ballot made -/
theorem ownB_one (w0 w : World) (hb : Below w0.heap.size w0 w) (x : Bal) : OwnB w0 (w.alloc (.cells (ballC x) 125)) (.slice (some ⟨w.heap.size, 0, none⟩) 1 1) [x] :=
  ⟨hb.trans ((alloc_below w _).mono hb.size), by simp [rowB, Bal.cells], .inr ⟨_, 1, _, rfl, hb.size, heap_alloc_new w _, Nat.le_refl _, by unfold maxLen; omega, rfl, by simp [rowB, Bal.cells, ballC]⟩⟩
end Go.Proofs.YtjadfpcipicckaaGreat.El

namespace Go.Proofs.YtjadfpcipicckaaGreat.El
open Go.RowKit Go.Proofs.YtjadfpcipicckaaGreat.Qu Go.Proofs.YtjadfpcipicckaaGreat.Fld
set_option linter.unusedVariables false

theorem setA_twice (am : Int → Int) (k v u : Int) : setA (setA am k v) k u = setA am k u := by
  funext x
  unfold setA
  by_cases h : x = k <;> simp [h]
def entV (last lt : Int) : Value := .agg #[.int .i64 last, .int .i64 lt]
theorem validHard_any (t v : Int) (w : World) : Calls Tryz.prog 39 #[.agg #[.int .i64 t, .int .i64 v]] w fun e w' => e = .returned (.bool (okHard t v)) ∧ Below w.heap.size w w' := by
  have HB := Lib.hid (alloc_below w (.cells #[.int .i64 t, .int .i64 v] 23))
  have hk := Blk.new w #[.int .i64 t, .int .i64 v] 23
  have c0 := hk.cell 0 (.int .i64 t) rfl
  have c1 := hk.cell 1 (.int .i64 v) rfl
  have HT := Lib.hid (fun W => validTerm_any t W)
  have HV := Lib.hid (fun W => validNode_any v W)
  have HH := Lib.hid (show okHard t v = (okTerm t && (decide (v = 0) || okNode v)) from rfl)
  clear hk
  cases ht : okTerm t with
  | false =>
    rw [ht] at HT
    go_enter Tryz.func39, Tryz.ntmps39
    go_wp2_with (go_at_call 79; refine (HT.out _).mono ?_; rintro e w' ⟨rfl, rfl⟩)
    go_ret
    exact ⟨by rw [HH.out, ht]; rfl, HB.out⟩
  | true =>
    rw [ht] at HT
    by_cases hv : v = 0
    · have q : (v == 0) = true := by simp [hv]
      have HH2 := Lib.hid (show okHard t v = true by rw [HH.out, ht]; simp [hv])
      clear hv
      go_enter Tryz.func39, Tryz.ntmps39
      go_wp2_with (go_at_call 79; refine (HT.out _).mono ?_; rintro e w' ⟨rfl, rfl⟩)
      go_ret
      exact ⟨by rw [HH2.out]; simp_all, HB.out⟩
    · have q : (v == 0) = false := by simp [hv]
      have HH2 := Lib.hid (show okHard t v = okNode v by rw [HH.out, ht]; simp [hv])
      clear hv
      go_enter Tryz.func39, Tryz.ntmps39
      go_wp2_with (first | (go_at_call 79; refine (HT.out _).mono ?_; rintro e w' ⟨rfl, rfl⟩) | (go_at_call 38; refine (HV.out _).mono ?_; rintro e w' ⟨rfl, rfl⟩))
      go_ret
      exact ⟨by rw [HH2.out]; simp_all, HB.out⟩
end Go.Proofs.YtjadfpcipicckaaGreat.El

namespace Go.Proofs.YtjadfpcipicckaaGreat.El
open Go.RowKit Go.Proofs.YtjadfpcipicckaaGreat.Qu Go.Proofs.YtjadfpcipicckaaGreat.Fld
set_option linter.unusedVariables false

def askL (s : St) (kind term last lt : Int) (l : List Int) : List Bal := (l.filter fun v => decide (v ≠ s.id)).map (askB s kind term last lt)
theorem askL_take (s : St) (kind term last lt : Int) (l : List Int) (k : Nat) (h : k < l.length) : askL s kind term last lt (l.take (k + 1)) = askL s kind term last lt (l.take k) ++ (if l.getD k 0 = s.id then [] else [askB s kind term last lt (l.getD k 0)]) := by
  unfold askL
  rw [take_succ l k h, List.filter_append, List.map_append]
  congr 1
  generalize l.getD k 0 = y
  by_cases hn : y = s.id
  · rw [if_pos hn, List.filter_cons, if_neg (by simpa using hn)]; rfl
  · rw [if_neg hn, List.filter_cons, if_pos (by simpa using hn)]; rfl
theorem askL_len (s : St) (kind term last lt : Int) (l : List Int) : (askL s kind term last lt l).length ≤ l.length := by
  unfold askL
  rw [List.length_map]
  exact List.length_filter_le _ _
theorem grp_len {vs ls : List Int} (h : grpOk vs ls = true) : vs.length ≤ 15 ∧ ls.length ≤ 15 := by
  obtain ⟨_, h1, h2, _⟩ := (grpOk_iff vs ls).1 h
  have := upN_len vs 0 h1 (by omega)
  have := upN_len ls 0 h2 (by omega)
  omega
set_option maxRecDepth 100000 in
set_option maxHeartbeats 3200000 in
theorem askAll_any (p : Pl) (s : St) (kind term last lt : Int) (w : World) (h : Im w p s) : Calls Tryz.prog 110 #[.pointer (some ⟨p.g, 0, none⟩), .int .i64 kind, .int .i64 term, entV last lt] w fun e w' => ∃ v, e = .returned v ∧ OwnB w w' v (askAll s kind term last lt) := by
  have hal := alloc_below w (.cells #[.int .i64 last, .int .i64 lt] 130)
  have HAL := Lib.hid hal
  have hi := h.below hal
  have HIM := Lib.hid hi
  have hk := Blk.new w #[.int .i64 last, .int .i64 lt] 130
  have HK := Lib.hid hk
  have hlen := (grp_len h.ok.grp).1
  have HT := Lib.hid (askL_take s kind term last lt s.vs)
  have HLE := Lib.hid (askL_len s kind term last lt)
  have c4 := hi.blk.cells.2.2.2.2.1
  have c5 := hi.blk.cells.2.2.2.2.2.1
  unfold entV
  have HQ := Lib.hid (show askAll s kind term last lt = askL s kind term last lt s.vs from rfl)
  rw [HQ.out]
  generalize hvn : s.vs.length = vn at *
  have HVN := Lib.hid hvn
  generalize hva : p.VA = VA at *
  have HVA := Lib.hid hva
  clear h hi hal hk hvn hva
  go_enter Tryz.func110, Tryz.ntmps110
  go_wp2_with fail
  go_loopw [9, 18] (fun v i wr => ∃ k : Nat, k ≤ vn ∧ i = .int .i64 k ∧ OwnB (w.alloc (.cells #[.int .i64 last, .int .i64 lt] 130)) wr v (askL s kind term last lt (s.vs.take k))) (fun _ i _ => vn - (intOf i).toNat)
  case atStart => exact ⟨0, Nat.zero_le _, rfl, OwnB.nil _ _ (Below.refl _ _)⟩
  case round =>
    obtain ⟨k, hk, rfl, hO⟩ := hrel
    have HO := Lib.hid hO
    have HI := Lib.hid (HIM.out.below hO.1)
    have HE := Lib.hid (HK.out.below hO.1)
    clear hO
    have c0 := HI.out.blk.cells.1
    have e0 := HE.out.cell 0 (.int .i64 last) rfl
    have e1 := HE.out.cell 1 (.int .i64 lt) rfl
    by_cases hlt : k < vn
    · have hvs := HI.out.vs
      rw [HVN.out, HVA.out] at hvs
      obtain ⟨b, off, rfl, hcell⟩ := hvs.2.2 (by omega)
      have hc := hcell k hlt
      have HT1 := Lib.hid (HT.out k hlt)
      have hle := Nat.le_trans (HLE.out (s.vs.take k)) (show (s.vs.take k).length ≤ vn by rw [List.length_take, HVN.out]; omega)
      generalize s.vs.getD k 0 = y at *
      generalize hrr : askL s kind term last lt (s.vs.take k) = rr at *
      clear hvs hcell
      by_cases hxy : y = s.id
      · have q1 : (y != s.id) = false := by simpa using hxy
        have HT2 := Lib.hid (show askL s kind term last lt (s.vs.take (k + 1)) = rr by rw [HT1.out, if_pos hxy]; simp)
        clear hxy
        go_wp2_with fail
        go_roundw
        case rel => exact ⟨k + 1, by omega, by go_num, by rw [HT2.out]; exact HO.out⟩
        case measure => simp [intOf]; omega
      · have q1 : (y != s.id) = true := by simpa using hxy
        have HT2 := Lib.hid (show askL s kind term last lt (s.vs.take (k + 1)) = rr ++ [askB s kind term last lt y] by rw [HT1.out, if_neg hxy])
        obtain ⟨RA, rc, rfl, _, _, _, hrn⟩ := row_slice HO.out.2
        clear hxy
        go_wp2_with fail
        go_region_held3 (fun w' => w'.cell? ⟨p.g, 0, none⟩ = some (.int .i64 s.id) ∧ w'.cell? ⟨w.heap.size, 0, none⟩ = some (.int .i64 last) ∧ w'.cell? ⟨w.heap.size, 1, none⟩ = some (.int .i64 lt)) (first | exact ⟨by assumption, by assumption, by assumption⟩ | go_keep) (first
          | (refine step_append_rowB rfl _ _ rfl (w.alloc (.cells #[.int .i64 last, .int .i64 lt] 130)).heap.size (.slice RA rr.length rc) rr.length (rowB rr) rfl (by exact (HO.out.below (alloc_below wr _).drew).2) (some ⟨wr.heap.size, 0, none⟩) 1 1 [askB s kind term last lt y] rfl (by exact rdB_one (Blk.new wr (ballC (askB s kind term last lt y)) 125)) (fun h => by cases h) (by omega) (by have := HO.out.1.size; simp at *; omega) ?_; intro v3 w3 hr3 hg3 ha3; have HO3 := Lib.hid (HO.out.push (ys := [askB s kind term last lt y]) (alloc_below wr (.cells (ballC (askB s kind term last lt y)) 125)).drew hg3 hr3); have HI3 := Lib.hid (HIM.out.below HO3.out.1); have HE3 := Lib.hid (HK.out.below HO3.out.1); have d0 := HI3.out.blk.cells.1; have g0 := HE3.out.cell 0 (.int .i64 last) rfl; have g1 := HE3.out.cell 1 (.int .i64 lt) rfl; clear hr3 hg3 ha3))
        all_goals
          go_wp2_with fail
          go_roundw
          case rel => exact ⟨k + 1, by omega, by go_num, by rw [HT2.out]; exact HO3.out⟩
          case measure => simp [intOf]; omega
    · obtain rfl : k = vn := by omega
      have HF := Lib.hid (show s.vs.take k = s.vs by rw [← HVN.out, List.take_length])
      rw [HF.out] at HO
      go_wp2
      go_ret
      exact ⟨_, rfl, HO.out.since HAL.out⟩
end Go.Proofs.YtjadfpcipicckaaGreat.El
