/-
  Several texts in one: Layer 10: rows of ballots of a call's own, and append onto them. Conditions: as each theorem states. Layer 8: lists of entries in the program: allValid, follow, behind, missing. Conditions: the lists can be read.
-/
import Derived.Test.YtjadfpcipicckaaGreatJQuBase
import Derived.Deep.RegionHeld3
import Derived.Deep.RegionWith
import Derived.Deep.RegionLaw
import Derived.Test.YtjadfpcipicckaaGreatJRlgMem
namespace Go.Proofs.YtjadfpcipicckaaGreat.El
open Go.RowKit Go.Proofs.YtjadfpcipicckaaGreat.Qu Go.Proofs.YtjadfpcipicckaaGreat.Fld
set_option linter.unusedVariables false

theorem addB (b off j : Nat) : Addr.add (⟨b, off, none⟩ : Addr) j = ⟨b, off + j, none⟩ := by
  unfold Addr.add
  split
  · simp_all
  · rfl
theorem run_append_rowB (w : World) (ty : TypeId) (lo : Nat) (v : Value) (n : Nat) (xs : List Value) (hown : w.ownsRow lo 125 7 v n xs) (A : Option Addr) (m c : Nat) (ys : List Bal) (hr : RdB w A m ys) (hA : A = none → c = 0) (hb : n + m ≤ 2000000) (hlo : lo ≤ w.heap.size) :
    ∃ v' w', (Builtin.append_ #[85, 85] ty #[v, .slice A m c]).run Tryz.prog w = .ok v' w' ∧ w'.ownsRow lo 125 7 v' (n + m) (xs ++ rowB ys) ∧ w.grownBy w' v.ownBlock ∧ (v'.ownBlock = v.ownBlock ∨ v'.ownBlock = some w.heap.size) := by
  obtain ⟨inf, i1, i2, i3, i4⟩ := ballot_info
  cases A with
  | none =>
    have hm : m = 0 := by
      rcases Nat.eq_zero_or_pos m with h | h
      · exact h
      · obtain ⟨b, off, he, _⟩ := hr.2.2 h; cases he
    subst hm
    obtain rfl : ys = [] := List.eq_nil_of_length_eq_zero hr.1
    obtain rfl := hA rfl
    refine ⟨v, w, run_append_owned_none (P := Tryz.prog) (w := w) lo 85 ty 125 inf 7 Tryz.underlying85 i1 v n xs hown, ?_, ⟨rfl, rfl, rfl, Nat.le_refl _, fun _ _ _ => rfl⟩, .inl rfl⟩
    rw [show rowB [] = [] from rfl, List.append_nil]
    exact hown
  | some ad =>
    obtain ⟨v', w', hrun, hrow, hg, _, hat⟩ := run_append_own_at (P := Tryz.prog) w lo 85 ty 125 inf _ 7 56 Tryz.underlying85 i1 i2 i3 i4 rfl (by omega) v n xs hown ad m c (rowB ys) (by rw [rowB_len, hr.1]) (by
      intro j u hu
      have hj : j < (rowB ys).length := (List.getElem?_eq_some_iff.1 hu).1
      rw [rowB_len, hr.1] at hj
      obtain ⟨b, off, he, hc⟩ := hr.2.2 (by omega)
      cases he
      rw [addB]
      exact hc j u hu) (rowB_one ys) (by unfold maxLen; omega) (by omega) hlo
    exact ⟨v', w', hrun, hrow, hg, hat⟩
theorem wpList_append_rowB {w : World} {ops : Array Oper} {rest : List Oper} {o : Oper} {a : Act} {Q : Exit → Act → World → Prop} (hgd : o.guard = none) (s x : Operand)
    (ho : o.op = .call { callee := .builtin .append, args := #[s, x], argTypes := #[85, 85] })
    (lo : Nat) (v : Value) (n : Nat) (xs : List Value) (hs : a.eval s = v) (hown : w.ownsRow lo 125 7 v n xs)
    (A : Option Addr) (m c : Nat) (ys : List Bal) (hx : a.eval x = .slice A m c) (hr : RdB w A m ys) (hA : A = none → c = 0) (hb : n + m ≤ 2000000) (hlo : lo ≤ w.heap.size)
    (h : ∀ v' w', w'.ownsRow lo 125 7 v' (n + m) (xs ++ rowB ys) → w.grownBy w' v.ownBlock → (v'.ownBlock = v.ownBlock ∨ v'.ownBlock = some w.heap.size) → wpList Tryz.prog ops Q rest (a.put o.dst v') w') : wpList Tryz.prog ops Q (o :: rest) a w := by
  obtain ⟨v', w', hrun, h1, h2, h3⟩ := run_append_rowB w o.type lo v n xs hown A m c ys hr hA hb hlo
  refine wpList_plain hgd fun K' hK' => ?_
  unfold Oper.wp execOp
  simp only [ho, resolve, invoke, builtin, Sem.run_bind, Sem.run_pure, Result.andThen_ok, List.map_toArray, List.map_cons, List.map_nil, hs, hx, hrun]
  exact hK' _ _ (h v' w' h1 h2 h3)
theorem step_append_rowB {w : World} {ops : Array Oper} {o : Oper} {a : Act} {K : Act → World → Prop} {Q : Exit → Act → World → Prop} {E : Prop} (hgd : o.guard = none) (s x : Operand)
    (ho : o.op = .call { callee := .builtin .append, args := #[s, x], argTypes := #[85, 85] })
    (lo : Nat) (v : Value) (n : Nat) (xs : List Value) (hs : a.eval s = v) (hown : w.ownsRow lo 125 7 v n xs)
    (A : Option Addr) (m c : Nat) (ys : List Bal) (hx : a.eval x = .slice A m c) (hr : RdB w A m ys) (hA : A = none → c = 0) (hb : n + m ≤ 2000000) (hlo : lo ≤ w.heap.size)
    (h : ∀ v' w', w'.ownsRow lo 125 7 v' (n + m) (xs ++ rowB ys) → w.grownBy w' v.ownBlock → (v'.ownBlock = v.ownBlock ∨ v'.ownBlock = some w.heap.size) → K (a.put o.dst v') w') :
    if Region.wanted o (yielded ops a.tmps) = true then Oper.wp Tryz.prog o a w K Q else E := by
  have hw : Region.wanted o (yielded ops a.tmps) = true := by simp [Region.wanted, hgd]
  rw [if_pos hw]
  obtain ⟨v', w', hrun, h1, h2, h3⟩ := run_append_rowB w o.type lo v n xs hown A m c ys hr hA hb hlo
  unfold Oper.wp execOp
  simp only [ho, resolve, invoke, builtin, Sem.run_bind, Sem.run_pure, Result.andThen_ok, List.map_toArray, List.map_cons, List.map_nil, hs, hx, hrun]
  exact h v' w' h1 h2 h3
theorem row_lo {w : World} {base size n : Nat} {ety : TypeId} {v : Value} {xs : List Value} (h : w.ownsRow base ety size v n xs) : ∀ i, v.ownBlock = some i → base ≤ i ∧ i < w.heap.size := by
  intro i he
  rcases h.2 with ⟨rfl, _⟩ | ⟨g, cap, cur, rfl, hg, hq, _⟩
  · cases he
  · cases he
    exact ⟨hg, (Array.getElem?_eq_some_iff.1 hq).1⟩
theorem row_of {w w' : World} {base size n : Nat} {ety : TypeId} {v : Value} {xs : List Value} (h : w.ownsRow base ety size v n xs) (hb : ∀ i, v.ownBlock = some i → w'.heap[i]? = w.heap[i]?) : w'.ownsRow base ety size v n xs := by
  obtain ⟨h1, h2⟩ := h
  refine ⟨h1, ?_⟩
  rcases h2 with h2 | ⟨q, cap, cur, hv, hg, hq, r⟩
  · exact .inl h2
  · exact .inr ⟨q, cap, cur, hv, hg, (hb q (by rw [hv]; rfl)).trans hq, r⟩
theorem row_lower {w : World} {base base' size n : Nat} {ety : TypeId} {v : Value} {xs : List Value} (h : w.ownsRow base ety size v n xs) (hb : base' ≤ base) : w.ownsRow base' ety size v n xs := by
  refine ⟨h.1, ?_⟩
  rcases h.2 with h | ⟨q, cap, cur, hv, hg, r⟩
  · exact .inl h
  · exact .inr ⟨q, cap, cur, hv, Nat.le_trans hb hg, r⟩
theorem row_slice {w : World} {base size n : Nat} {ety : TypeId} {v : Value} {xs : List Value} (h : w.ownsRow base ety size v n xs) : ∃ A cap, v = .slice A n cap ∧ (∀ a, A = some a → a.spot = none ∧ a.off = 0) ∧ n ≤ cap ∧ cap ≤ maxLen ∧ (A = none → cap = 0 ∧ n = 0) := by
  rcases h.2 with ⟨rfl, rfl⟩ | ⟨q, cap, cur, rfl, hg, hq, hn, hm, _⟩
  · exact ⟨none, 0, rfl, (fun a h => by cases h), by omega, by unfold maxLen; omega, fun _ => ⟨rfl, rfl⟩⟩
  · exact ⟨_, cap, rfl, (fun a h => by cases h; exact ⟨rfl, rfl⟩), hn, hm, fun h => by cases h⟩
theorem row_ne {w : World} {base size n B : Nat} {ety ty : TypeId} {v : Value} {xs : List Value} {cs : Array Value} (h : w.ownsRow base ety size v n xs) (hB : Blk w B cs ty) (ht : ety ≠ ty) : v.ownBlock ≠ some B := by
  intro he
  rcases h.2 with ⟨rfl, _⟩ | ⟨g, cap, cur, rfl, _, hg, _⟩
  · cases he
  · cases he
    unfold Blk at hB
    rw [hB] at hg
    cases hg
    exact ht rfl
theorem row_nil (w : World) (lo : Nat) (ety : TypeId) (size : Nat) : w.ownsRow lo ety size (.slice none 0 0) 0 [] := ⟨by simp, .inl ⟨rfl, rfl⟩⟩
/-- a row's cells -/
theorem row_cells {w : World} {lo n g cap size : Nat} {ety : TypeId} {xs : List Value} (h : w.ownsRow lo ety size (.slice (some ⟨g, 0, none⟩) n cap) n xs) : ∀ j v, xs[j]? = some v → w.cell? ⟨g, j, none⟩ = some v ∧ w.frozen? ⟨g, j, none⟩ = false := by
  intro j v hj
  rcases h.2 with ⟨h, _⟩ | ⟨g', cap', cur, he, hg, hh, h4, h5, h6, h7⟩
  · cases h
  · injection he with e1 e2 e3
    injection e1 with e1
    injection e1 with e1
    subst e1 e3
    refine ⟨?_, frozen_of_row w g j cur _ hh⟩
    rw [cell_of_row w g j cur _ (0, 0) hh]
    rw [← h7, List.getElem?_take] at hj
    split at hj
    · rw [Array.getElem?_toList] at hj; exact hj
    · cases hj
/-- v is a slice of the ballots l in memory of the call's own, made behind w0; what was there at w0 is as it was -/
def OwnB (w0 w : World) (v : Value) (l : List Bal) : Prop := Below w0.heap.size w0 w ∧ w.ownsRow w0.heap.size 125 7 v l.length (rowB l)
theorem OwnB.nil (w0 w : World) (hb : Below w0.heap.size w0 w) : OwnB w0 w (.slice none 0 0) [] := ⟨hb, row_nil _ _ _ _⟩
theorem OwnB.below {w0 w w' : World} {v : Value} {l : List Bal} (h : OwnB w0 w v l) (hb : Below w.heap.size w w') : OwnB w0 w' v l :=
  ⟨h.1.trans (hb.mono h.1.size), row_of h.2 fun i hi => hb.block i (row_lo h.2 i hi).2⟩
theorem OwnB.since {w0 w1 w : World} {v : Value} {l : List Bal} (h : OwnB w1 w v l) (hb : Below w0.heap.size w0 w1) : OwnB w0 w v l := ⟨hb.trans (h.1.mono hb.size), row_lower h.2 hb.size⟩
theorem rowB_read {w : World} {lo n cap : Nat} {A : Option Addr} {l : List Bal} (h : w.ownsRow lo 125 7 (.slice A n cap) n (rowB l)) : RdB w A n l := by
  have hl : l.length = n := by have := h.1; rw [rowB_len] at this; omega
  refine ⟨hl, by obtain ⟨_, _, he, _, h1, h2, _⟩ := row_slice h; cases he; omega, fun hn => ?_⟩
  rcases h.2 with ⟨_, h0⟩ | ⟨g', cap', cur, he, hg, hh, h4, h5, h6, h7⟩
  · omega
  · cases he
    refine ⟨g', 0, rfl, fun j v hj => ?_⟩
    rw [Nat.zero_add]
    exact (row_cells h j v hj).1
theorem OwnB.push {w0 w W w3 : World} {v v' : Value} {l ys : List Bal} (h : OwnB w0 w v l) (hW : Below w.heap.size w W) (hg : W.grownBy w3 v.ownBlock) (hr : w3.ownsRow w0.heap.size 125 7 v' (l.length + ys.length) (rowB l ++ rowB ys)) : OwnB w0 w3 v' (l ++ ys) := by
  have hb : Below w0.heap.size w0 W := h.1.trans (hW.mono h.1.size)
  refine ⟨hb.grown hg hb.size fun r hr' => (row_lo h.2 r hr').1, ?_⟩
  rw [List.length_append, rowB_append]
  exact hr
def ballC (x : Bal) : Array Value := #[.int .i64 x.kind, .int .i64 x.frm, .int .i64 x.to, .int .i64 x.term, .int .i64 x.idx, .int .i64 x.lt, .bool x.yes]
theorem rdB_one {w : World} {g : Nat} {x : Bal} (h : Blk w g (ballC x) 125) : RdB w (some ⟨g, 0, none⟩) 1 [x] := by
  refine ⟨rfl, by unfold maxLen; omega, fun _ => ⟨_, 0, rfl, fun j v hj => ?_⟩⟩
  rw [Nat.zero_add]
  refine Blk.cell h j v ?_
  rw [← Array.getElem?_toList]
  show (x.cells)[j]? = some v
  simpa [rowB] using hj
/-- one ballot made -/
theorem ownB_one (w0 w : World) (hb : Below w0.heap.size w0 w) (x : Bal) : OwnB w0 (w.alloc (.cells (ballC x) 125)) (.slice (some ⟨w.heap.size, 0, none⟩) 1 1) [x] :=
  ⟨hb.trans ((alloc_below w _).mono hb.size), by simp [rowB, Bal.cells], .inr ⟨_, 1, _, rfl, hb.size, heap_alloc_new w _, Nat.le_refl _, by unfold maxLen; omega, rfl, by simp [rowB, Bal.cells, ballC]⟩⟩
end Go.Proofs.YtjadfpcipicckaaGreat.El

namespace Go.Proofs.YtjadfpcipicckaaGreat.Rg
open Go.RowKit Go.Proofs.YtjadfpcipicckaaGreat.Fld
set_option linter.unusedVariables false

/-- the program's log, as what looks at it wants it -/
structure Lo (w : World) (g : Nat) (s : St) (A : Option Addr) (n cap : Nat) (ys : List EA) : Prop where
  lb : Lb w g s.base s.bt (.slice A n cap) s.com s.app
  rd : RdE w A n ys
  es : ens ys = s.es
  b0 : 0 ≤ s.base
  b1 : s.base + n ≤ 1099511627776
theorem Lo.below {w w' : World} {g : Nat} {s : St} {A : Option Addr} {n cap : Nat} {ys : List EA} (h : Lo w g s A n cap ys) (hb : Below w.heap.size w w') : Lo w' g s A n cap ys := ⟨Blk.below h.lb hb, h.rd.below hb, h.es, h.b0, h.b1⟩
theorem Lo.still {w w' : World} {g : Nat} {s : St} {A : Option Addr} {n cap : Nat} {ys : List EA} (h : Lo w g s A n cap ys) (hs : Still w w') : Lo w' g s A n cap ys := h.below (below_still hs (Nat.le_refl _))
theorem Lo.n {w : World} {g : Nat} {s : St} {A : Option Addr} {n cap : Nat} {ys : List EA} (h : Lo w g s A n cap ys) : s.es.length = n := by rw [← h.es, ens_len]; exact h.rd.len
theorem Lo.last_dr {w : World} {g : Nat} {s : St} {A : Option Addr} {n cap : Nat} {ys : List EA} (h : Lo w g s A n cap ys) : Calls Tryz.prog 22 #[.pointer (some ⟨g, 0, none⟩)] w fun e w' => e = .returned (.int .i64 s.last) ∧ ∃ m, w' = w.drewN m := by
  have := Rg.last_dr g s.base s.bt s.com s.app A n cap w h.lb h.b0 h.b1
  rw [show s.last = s.base + n by unfold St.last; rw [h.n]]
  exact this
theorem Lo.term_dr {w : World} {g : Nat} {s : St} {A : Option Addr} {n cap : Nat} {ys : List EA} (h : Lo w g s A n cap ys) (i : Int) : Calls Tryz.prog 61 #[.pointer (some ⟨g, 0, none⟩), .int .i64 i] w fun e w' => e = .returned (.tuple #[.int .i64 (termV s i), .bool (termB s i)]) ∧ ∃ m, w' = w.drewN m := by
  have := Rg.term_dr g s.base s.bt s.com s.app i A n cap ys w h.lb h.rd h.b0 h.b1
  rw [h.es] at this
  exact this
theorem Lo.lastTerm_dr {w : World} {g : Nat} {s : St} {A : Option Addr} {n cap : Nat} {ys : List EA} (h : Lo w g s A n cap ys) : Calls Tryz.prog 44 #[.pointer (some ⟨g, 0, none⟩)] w fun e w' => e = .returned (.int .i64 s.lt) ∧ ∃ m, w' = w.drewN m := by
  have := Rg.lastTerm_dr g s.base s.bt s.com s.app A n cap ys w h.lb h.rd h.b0 h.b1
  rw [h.es] at this
  exact this
theorem ret_bool {a b : Bool} (h : a = b) : Ending.returned (.bool a) = Ending.returned (.bool b) := by rw [h]
theorem okE_parts (e : En) : okE e = (!(e.idx == 0) && okN e.idx && okN e.term && decide (0 ≤ e.kind) && decide (e.kind ≤ 7) && decide (e.data.length ≤ 4096)) := by
  rw [Bool.eq_iff_iff, okE_iff]
  simp only [okN, Bool.and_eq_true, decide_eq_true_eq, Bool.not_eq_true', beq_eq_false_iff_ne]
  omega
theorem take_snoc {l : List En} (k : Nat) (h : k < l.length) : l.take (k + 1) = l.take k ++ [l.getD k en0] := by
  rw [List.take_add_one, List.getElem?_eq_getElem h, List.getD_eq_getElem?_getD, List.getElem?_eq_getElem h]; rfl
theorem okL_at {l : List En} (k : Nat) (h : k < l.length) : (okE (l.getD k en0) = false → okL l = false) ∧ (okL (l.take k) = true → okE (l.getD k en0) = true → okL (l.take (k + 1)) = true) := by
  refine ⟨fun he => ?_, fun h1 h2 => by rw [take_snoc k h, okL_append, h1, Bool.true_and]; show ([l.getD k en0]).all okE = true; rw [List.all_cons, h2]; rfl⟩
  cases hb : okL l with
  | false => rfl
  | true =>
    have := okL_mem hb (e := l.getD k en0) (by rw [List.getD_eq_getElem?_getD, List.getElem?_eq_getElem h]; exact List.getElem_mem _)
    rw [this] at he
    cases he
set_option maxRecDepth 100000 in
set_option maxHeartbeats 3200000 in
theorem allValid_any (A : Option Addr) (n cap : Nat) (xs : List EA) (w : World) (hr : RdE w A n xs) : Calls Tryz.prog 42 #[.slice A n cap] w fun e w' => e = .returned (.bool (okL (ens xs))) ∧ Below w.heap.size w w' := by
  have HR := Lib.hid hr
  have HL := Lib.hid hr.len
  have hm := hr.most
  unfold maxLen at hm
  clear hr
  go_enter Tryz.func42, Tryz.ntmps42
  go_wp2
  go_loopw [7] (fun i wr => ∃ k : Nat, k ≤ n ∧ i = .int .i64 k ∧ okL ((ens xs).take k) = true ∧ Below w.heap.size w wr) (fun i _ => n - (intOf i).toNat)
  case atStart => exact ⟨0, Nat.zero_le _, rfl, rfl, Below.refl _ _⟩
  case round =>
    obtain ⟨k, hk, rfl, hok, hbel⟩ := hrel
    have HOK := Lib.hid hok
    have HBEL := Lib.hid hbel
    clear hok hbel
    by_cases hlt : k < n
    · obtain ⟨b, off, rfl, q0, q1, q2, q3⟩ := (HR.out.below HBEL.out).elem k hlt
      have hkx : k < (ens xs).length := by rw [ens_len]; have := HL.out; omega
      obtain ⟨ha, hb⟩ := okL_at k hkx
      have hb2 := hb HOK.out
      rw [ens_at _ _ (by have := HL.out; omega), okE_parts] at ha hb2
      have HA := Lib.hid ha
      have HT := Lib.hid hb2
      clear ha hb hb2
      generalize xs.getD k ea0 = x at *
      obtain ⟨⟨idx, term, kind, data⟩, XA, xc⟩ := x
      simp only at q0 q1 q2 q3 HA HT
      generalize data.length = D at *
      have k0 : (0 : Int) ≤ (k : Int) := by omega
      have k1 : (k : Int) < (n : Int) := by omega
      have HB2 := Lib.hid (fun ob => HBEL.out.alloc HBEL.out.size ob)
      by_cases h1 : idx = 0
      · subst h1
        have hf : okL (ens xs) = false := HA.out (by simp)
        have HFF := Lib.hid hf
        clear hf
        go_wp2
        go_ret
        exact ⟨ret_bool HFF.out.symm, HB2.out _⟩
      have b1 : (idx == 0) = false := by simpa using h1
      cases h2 : okN idx with
      | false =>
        have hf : okL (ens xs) = false := HA.out (by rw [b1, h2]; rfl)
        have HFF := Lib.hid hf
        clear hf
        go_wp2_with (go_at_call 41; refine (validIndex_any _ _).mono ?_; rintro e w' ⟨rfl, rfl⟩)
        go_ret
        exact ⟨ret_bool HFF.out.symm, HB2.out _⟩
      | true =>
      cases h3 : okN term with
      | false =>
        have hf : okL (ens xs) = false := HA.out (by rw [b1, h2, h3]; rfl)
        have HFF := Lib.hid hf
        clear hf
        go_wp2_with (go_at_call 41; refine (validIndex_any _ _).mono ?_; rintro e w' ⟨rfl, rfl⟩)
        go_ret
        exact ⟨ret_bool HFF.out.symm, HB2.out _⟩
      | true =>
      by_cases h4 : 0 ≤ kind
      rotate_left
      · have h4' : kind < 0 := by omega
        have hf : okL (ens xs) = false := HA.out (by rw [b1, h2, h3, decide_eq_false h4]; rfl)
        have HFF := Lib.hid hf
        clear hf
        go_wp2_with (go_at_call 41; refine (validIndex_any _ _).mono ?_; rintro e w' ⟨rfl, rfl⟩)
        go_ret
        exact ⟨ret_bool HFF.out.symm, HB2.out _⟩
      by_cases h5 : kind ≤ 7
      rotate_left
      · have h5' : 7 < kind := by omega
        have hf : okL (ens xs) = false := HA.out (by rw [b1, h2, h3, decide_eq_true h4, decide_eq_false h5]; rfl)
        have HFF := Lib.hid hf
        clear hf
        go_wp2_with (go_at_call 41; refine (validIndex_any _ _).mono ?_; rintro e w' ⟨rfl, rfl⟩)
        go_ret
        exact ⟨ret_bool HFF.out.symm, HB2.out _⟩
      have h4' : ¬ kind < 0 := by omega
      have h5' : ¬ 7 < kind := by omega
      by_cases h6 : D ≤ 4096
      · have ht := Lib.hid (HT.out (by rw [b1, h2, h3, decide_eq_true h4, decide_eq_true h5, decide_eq_true h6]; rfl))
        have h6' : ¬ (4096 : Int) < (D : Int) := by omega
        go_wp2_with (go_at_call 41; refine (validIndex_any _ _).mono ?_; rintro e w' ⟨rfl, rfl⟩)
        go_roundw
        case rel => exact ⟨k + 1, by omega, by go_num, ht.out, HB2.out _⟩
        case measure => simp [intOf]; omega
      · have h6' : (4096 : Int) < (D : Int) := by omega
        have hf : okL (ens xs) = false := HA.out (by rw [b1, h2, h3, decide_eq_true h4, decide_eq_true h5, decide_eq_false h6]; rfl)
        have HFF := Lib.hid hf
        clear hf
        go_wp2_with (go_at_call 41; refine (validIndex_any _ _).mono ?_; rintro e w' ⟨rfl, rfl⟩)
        go_ret
        exact ⟨ret_bool HFF.out.symm, HB2.out _⟩
    · obtain rfl : k = n := by omega
      have hf : okL (ens xs) = true := by have := HOK.out; rwa [← HL.out, ← ens_len, List.take_length] at this
      have HFF := Lib.hid hf
      clear hf
      go_wp2
      go_ret
      exact ⟨ret_bool HFF.out.symm, HBEL.out⟩
theorem fol_step {l : List En} {i t : Int} (k : Nat) (h : k < l.length) (hf : fol (l.take k) i t = true) : ((l.getD k en0).idx = i + k + 1 → lastT t (l.take k) ≤ (l.getD k en0).term → fol (l.take (k + 1)) i t = true ∧ lastT t (l.take (k + 1)) = (l.getD k en0).term) ∧ ((l.getD k en0).idx ≠ i + k + 1 ∨ (l.getD k en0).term < lastT t (l.take k) → fol l i t = false) := by
  have hl : (l.take k).length = k := by rw [List.length_take]; omega
  refine ⟨fun h1 h2 => ⟨?_, ?_⟩, fun hh => ?_⟩
  · rw [take_snoc k h, fol_append, hl]
    exact ⟨hf, by rw [fol_cons]; exact ⟨by omega, h2, rfl⟩⟩
  · rw [lastT_take (k + 1) (by omega) (by omega)]; rfl
  · cases hb : fol l i t with
    | false => rfl
    | true =>
      have := fol_take hb (k + 1)
      rw [take_snoc k h, fol_append, hl, fol_cons] at this
      omega
set_option maxRecDepth 100000 in
set_option maxHeartbeats 3200000 in
theorem follow_any (A : Option Addr) (n cap : Nat) (xs : List EA) (i t : Int) (w : World) (hr : RdE w A n xs) (ho : okL (ens xs) = true) (hi : -9223372036854775808 ≤ i) (hi2 : i ≤ 9223372036854775807) : Calls Tryz.prog 43 #[.slice A n cap, .int .i64 i, .int .i64 t] w fun e w' => e = .returned (.bool (fol (ens xs) i t)) ∧ Below w.heap.size w w' := by
  have HR := Lib.hid hr
  have HL := Lib.hid hr.len
  have HO := Lib.hid ho
  have hm := hr.most
  unfold maxLen at hm
  clear hr ho
  go_enter Tryz.func43, Tryz.ntmps43
  go_wp2
  go_loopw [1, 2, 11] (fun iv tv c wr => ∃ k : Nat, k ≤ n ∧ c = .int .i64 k ∧ iv = .int .i64 (i + k) ∧ tv = .int .i64 (lastT t ((ens xs).take k)) ∧ fol ((ens xs).take k) i t = true ∧ i + k ≤ 9223372036854775807 ∧ Below w.heap.size w wr) (fun _ _ c _ => n - (intOf c).toNat)
  case atStart => exact ⟨0, Nat.zero_le _, rfl, by simp, rfl, rfl, by simpa using hi2, Below.refl _ _⟩
  case round =>
    obtain ⟨k, hk, rfl, rfl, rfl, hfo, hik, hbel⟩ := hrel
    have HFO := Lib.hid hfo
    have HBEL := Lib.hid hbel
    clear hfo hbel
    by_cases hlt : k < n
    · obtain ⟨b, off, rfl, q0, q1, q2, q3⟩ := (HR.out.below HBEL.out).elem k hlt
      have hkx : k < (ens xs).length := by rw [ens_len]; have := HL.out; omega
      obtain ⟨ha, hb⟩ := fol_step k hkx HFO.out
      have hoe := (okE_iff _).1 (okL_mem HO.out (e := (ens xs).getD k en0) (by rw [List.getD_eq_getElem?_getD, List.getElem?_eq_getElem hkx]; exact List.getElem_mem _))
      rw [ens_at _ _ (by have := HL.out; omega)] at ha hb hoe
      obtain ⟨I, hI⟩ : ∃ I, i + (k : Int) = I := ⟨_, rfl⟩
      have HI := Lib.hid hI
      rw [hI] at ha hb hik ⊢
      have HA := Lib.hid ha
      have HF := Lib.hid hb
      have hIlo : -9223372036854775808 ≤ I := by omega
      clear ha hb hI
      generalize lastT t ((ens xs).take k) = T at *
      generalize xs.getD k ea0 = x at *
      obtain ⟨⟨idx, term, kind, data⟩, XA, xc⟩ := x
      simp only at q0 q1 q2 q3 HA HF hoe
      generalize data.length = D at *
      have k0 : (0 : Int) ≤ (k : Int) := by omega
      have k1 : (k : Int) < (n : Int) := by omega
      have i0 := hoe.1
      have i1 := hoe.2.1
      clear hoe
      have HB2 := Lib.hid (fun ob => HBEL.out.alloc HBEL.out.size ob)
      by_cases hbig : I ≤ 4611686018427387904
      rotate_left
      · have b1 : (idx == wrap64 (I + 1)) = false := by
          rw [beq_eq_false_iff_ne]
          unfold wrap64
          omega
        have b2 : (idx != wrap64 (I + 1)) = true := by rw [bne, b1]; rfl
        have hf : fol (ens xs) i t = false := HF.out (.inl (by omega))
        have HFF := Lib.hid hf
        clear hf
        go_wp2
        go_ret
        exact ⟨ret_bool HFF.out.symm, HB2.out _⟩
      by_cases h1 : idx = I + 1
      rotate_left
      · have b1 : (idx == I + 1) = false := by rw [beq_eq_false_iff_ne]; exact h1
        have b2 : (idx != I + 1) = true := by rw [bne, b1]; rfl
        have hf : fol (ens xs) i t = false := HF.out (.inl h1)
        have HFF := Lib.hid hf
        clear hf
        go_wp2
        go_ret
        exact ⟨ret_bool HFF.out.symm, HB2.out _⟩
      have H1 := Lib.hid h1
      have b1 : (idx == I + 1) = true := by rw [beq_iff_eq]; exact h1
      have b2 : (idx != I + 1) = false := by rw [bne, b1]; rfl
      clear h1
      by_cases h2 : term < T
      · have hf : fol (ens xs) i t = false := HF.out (.inr h2)
        have HFF := Lib.hid hf
        clear hf
        go_wp2
        go_ret
        exact ⟨ret_bool HFF.out.symm, HB2.out _⟩
      · have ht := Lib.hid (HA.out H1.out (by omega))
        go_wp2_with fail
        go_quiet (fail)
        go_wp2
        go_roundw
        case rel => exact ⟨k + 1, by omega, by go_num, by rw [H1.out, ← HI.out]; go_num, by rw [ht.out.2], ht.out.1, by have := HI.out; have := H1.out; omega, (HB2.out _).trans (below_still (still_drewN _ _) (HB2.out _).size)⟩
        case measure => simp [intOf]; omega
    · obtain rfl : k = n := by omega
      have hf : fol (ens xs) i t = true := by have := HFO.out; rwa [← HL.out, ← ens_len, List.take_length] at this
      have HFF := Lib.hid hf
      clear hf
      go_wp2
      go_ret
      exact ⟨ret_bool HFF.out.symm, HBEL.out⟩
end Go.Proofs.YtjadfpcipicckaaGreat.Rg
