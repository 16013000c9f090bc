/-
  Several texts in one: Layer 8: what is left of a list: behind, and missing with its closure and slices.IndexFunc, in the program. Conditions: the lists can be read. Layer 8: entries that are copied, appended, deleted: append of entries, bytes.Clone, slices.Clone, copied, slices.Delete. Conditions: as each theorem states.
-/
import Derived.Test.YtjadfpcipicckaaGreatJElRow
import Derived.Test.YtjadfpcipicckaaGreatJRlgMem
import Derived.Lib.LazyBuf
namespace Go.Proofs.YtjadfpcipicckaaGreat.Rg
open Go.RowKit Go.Proofs.YtjadfpcipicckaaGreat.Fld
set_option linter.unusedVariables false

theorem upto_succ {P : Nat → Prop} {k : Nat} (h : ∀ i, i < k → P i) (hk : P k) : ∀ i, i < k + 1 → P i := by
  intro i hi
  rcases Nat.lt_or_ge i k with h1 | h1
  · exact h i h1
  · have : i = k := by omega
    subst this
    exact hk
/-- a part of a slice, from a place on -/
theorem RdE.tail {w : World} {b off n : Nat} {xs : List EA} (h : RdE w (some ⟨b, off, none⟩) n xs) (k : Nat) (hk : k ≤ n) (cap : Nat) (hc : n ≤ cap) : RdE w (some (if cap = k then ⟨b, off, none⟩ else ⟨b, off + k * 4, none⟩)) (n - k) (xs.drop k) := by
  refine ⟨by rw [List.length_drop, h.len], by have := h.most; omega, fun hn => ?_, h.dat.drop k⟩
  obtain ⟨b', off', hA, hcell⟩ := h.at' (by omega)
  cases hA
  rw [if_neg (by omega)]
  refine ⟨b, off + k * 4, rfl, fun j v hj => ?_⟩
  rw [rowE_drop, List.getElem?_drop] at hj
  have := hcell _ _ hj
  rw [← Nat.add_assoc] at this
  exact this
/-- a slice of entries of which the entries are those -/
def Left (w : World) (l : List En) (v : Value) : Prop := ∃ A m c ys, v = .slice A m c ∧ RdE w A m ys ∧ m ≤ c ∧ c ≤ maxLen ∧ (A = none → c = 0) ∧ ens ys = l ∧ m = l.length
/-- what IndexFunc tells, of a question that each entry answers -/
def IdxIs (n : Nat) (q : Nat → Bool) (k : Int) : Prop := (k = -1 ∧ ∀ i, i < n → q i = false) ∨ ∃ j : Nat, k = j ∧ j < n ∧ q j = true ∧ ∀ i, i < j → q i = false
theorem mis_of (s : St) : ∀ (l : List En) (k : Nat), k ≤ l.length → (∀ i, i < k → hasB s (l.getD i en0).idx (l.getD i en0).term = true) → (k < l.length → hasB s (l.getD k en0).idx (l.getD k en0).term = false) → mis s l = l.drop k
  | [], k, hk, _, _ => by
    simp only [List.length_nil] at hk
    obtain rfl : k = 0 := by omega
    rfl
  | e :: r, 0, _, _, h => by
    have := h (by simp)
    simp only [List.getD_cons_zero] at this
    simp only [mis]
    rw [this]
    rfl
  | e :: r, k + 1, hk, h1, h2 => by
    have h0 := h1 0 (by omega)
    simp only [List.getD_cons_zero] at h0
    simp only [mis]
    rw [if_pos h0, List.drop_succ_cons]
    exact mis_of s r k (by simpa using hk) (fun i hi => by have := h1 (i + 1) (by omega); simpa using this) (fun hl => by have := h2 (by simpa using hl); simpa using this)
end Go.Proofs.YtjadfpcipicckaaGreat.Rg

namespace Go.Proofs.YtjadfpcipicckaaGreat.Rg
open Go.RowKit Go.Proofs.YtjadfpcipicckaaGreat.Fld
set_option linter.unusedVariables false

theorem add_at (b off j : Nat) : Addr.add (⟨b, off, none⟩ : Addr) j = ⟨b, off + j, none⟩ := by
  unfold Addr.add
  split
  · simp_all
  · rfl
/-- append of entries onto a row of a call's own -/
theorem run_append_rowE (w : World) (ty : TypeId) (lo : Nat) (v : Value) (n : Nat) (xs : List Value) (hown : w.ownsRow lo 67 4 v n xs) (A : Option Addr) (m c : Nat) (ys : List EA) (hr : RdE w A m ys) (hA : A = none → c = 0) (hb : n + m ≤ 2000000) (hlo : lo ≤ w.heap.size) :
    ∃ v' w', (Builtin.append_ #[30, 30] ty #[v, .slice A m c]).run Tryz.prog w = .ok v' w' ∧ w'.ownsRow lo 67 4 v' (n + m) (xs ++ rowE ys) ∧ w.grownBy w' v.ownBlock ∧ (v'.ownBlock = v.ownBlock ∨ v'.ownBlock = some w.heap.size) := by
  obtain ⟨inf, i1, i2, i3, i4⟩ := entry_info
  cases A with
  | none =>
    have hm : m = 0 := by
      rcases Nat.eq_zero_or_pos m with h | h
      · exact h
      · obtain ⟨b, off, he, _⟩ := hr.at' h; cases he
    subst hm
    obtain rfl : ys = [] := List.eq_nil_of_length_eq_zero hr.len
    obtain rfl := hA rfl
    refine ⟨v, w, run_append_owned_none (P := Tryz.prog) (w := w) lo 30 ty 67 inf 4 Tryz.underlying30 i1 v n xs hown, ?_, ⟨rfl, rfl, rfl, Nat.le_refl _, fun _ _ _ => rfl⟩, .inl rfl⟩
    rw [show rowE [] = [] from rfl, List.append_nil]
    exact hown
  | some ad =>
    obtain ⟨v', w', hrun, hrow, hg, _, hat⟩ := run_append_own_at (P := Tryz.prog) w lo 30 ty 67 inf _ 4 48 Tryz.underlying30 i1 i2 i3 i4 rfl (by omega) v n xs hown ad m c (rowE ys) (by rw [rowE_len, hr.len]) (by
      intro j u hu
      have hj : j < (rowE ys).length := (List.getElem?_eq_some_iff.1 hu).1
      rw [rowE_len, hr.len] at hj
      obtain ⟨b, off, he, hc⟩ := hr.at' (by omega)
      cases he
      rw [add_at]
      exact hc j u hu) (rowE_one ys) (by unfold maxLen; omega) (by omega) hlo
    exact ⟨v', w', hrun, hrow, hg, hat⟩
theorem wpList_append_rowE {w : World} {ops : Array Oper} {rest : List Oper} {o : Oper} {a : Act} {Q : Exit → Act → World → Prop} (hgd : o.guard = none) (s x : Operand)
    (ho : o.op = .call { callee := .builtin .append, args := #[s, x], argTypes := #[30, 30] })
    (lo : Nat) (v : Value) (n : Nat) (xs : List Value) (hs : a.eval s = v) (hown : w.ownsRow lo 67 4 v n xs)
    (A : Option Addr) (m c : Nat) (ys : List EA) (hx : a.eval x = .slice A m c) (hr : RdE w A m ys) (hA : A = none → c = 0) (hb : n + m ≤ 2000000) (hlo : lo ≤ w.heap.size)
    (h : ∀ v' w', w'.ownsRow lo 67 4 v' (n + m) (xs ++ rowE ys) → w.grownBy w' v.ownBlock → (v'.ownBlock = v.ownBlock ∨ v'.ownBlock = some w.heap.size) → wpList Tryz.prog ops Q rest (a.put o.dst v') w') : wpList Tryz.prog ops Q (o :: rest) a w := by
  refine wpList_plain hgd fun K hK => ?_
  obtain ⟨v', w', hrun, h1, h2, h3⟩ := run_append_rowE w o.type lo v n xs hown A m c ys hr hA hb hlo
  unfold Oper.wp execOp
  simp only [ho, resolve, invoke, builtin, Sem.run_bind, Sem.run_pure, Result.andThen_ok, List.map_toArray, List.map_cons, List.map_nil, hs, hx, hrun]
  exact hK _ _ (h v' w' h1 h2 h3)
theorem step_append_rowE {w : World} {ops : Array Oper} {o : Oper} {a : Act} {K : Act → World → Prop} {Q : Exit → Act → World → Prop} {E : Prop} (hgd : o.guard = none) (s x : Operand)
    (ho : o.op = .call { callee := .builtin .append, args := #[s, x], argTypes := #[30, 30] })
    (lo : Nat) (v : Value) (n : Nat) (xs : List Value) (hs : a.eval s = v) (hown : w.ownsRow lo 67 4 v n xs)
    (A : Option Addr) (m c : Nat) (ys : List EA) (hx : a.eval x = .slice A m c) (hr : RdE w A m ys) (hA : A = none → c = 0) (hb : n + m ≤ 2000000) (hlo : lo ≤ w.heap.size)
    (h : ∀ v' w', w'.ownsRow lo 67 4 v' (n + m) (xs ++ rowE ys) → w.grownBy w' v.ownBlock → (v'.ownBlock = v.ownBlock ∨ v'.ownBlock = some w.heap.size) → K (a.put o.dst v') w') :
    if Region.wanted o (yielded ops a.tmps) = true then Oper.wp Tryz.prog o a w K Q else E := by
  have hw : Region.wanted o (yielded ops a.tmps) = true := by simp [Region.wanted, hgd]
  rw [if_pos hw]
  obtain ⟨v', w', hrun, h1, h2, h3⟩ := run_append_rowE w o.type lo v n xs hown A m c ys hr hA hb hlo
  unfold Oper.wp execOp
  simp only [ho, resolve, invoke, builtin, Sem.run_bind, Sem.run_pure, Result.andThen_ok, List.map_toArray, List.map_cons, List.map_nil, hs, hx, hrun]
  exact h v' w' h1 h2 h3

/-! ### bytes.Clone, slices.Clone -/
theorem clone8_any (A : Option Addr) (n cap : Nat) (zs : List Int) (w : World) (hr : Rd w A n zs) (hA : A = none → cap = 0) (hn : n ≤ 140737488355328) : Calls Tryz.prog 47 #[.slice A n cap] w fun e w' => ∃ v, e = .returned v ∧ Own w w' v zs := by
  have q := fun (w : World) (a : Option Addr) (l c : Nat) => run_eql_slice_nil (P := Tryz.prog) w 27 5 a l c Tryz.underlying27
  cases A with
  | none =>
    have hn0 : n = 0 := by
      rcases Nat.eq_zero_or_pos n with h0 | h0
      · exact h0
      · obtain ⟨b, off, he, _⟩ := hr.2.2.2 h0; cases he
    subst hn0
    obtain rfl : zs = [] := List.eq_nil_of_length_eq_zero hr.1
    obtain rfl := hA rfl
    clear hr hA
    go_enter Tryz.func47, Tryz.ntmps47
    go_wp2
    go_ret
    exact ⟨_, rfl, Own.nil w w (Below.refl _ _)⟩
  | some a =>
    have HR := Lib.hid hr
    have HA := Lib.hid hA
    have HO := Lib.hid (Own.made w w (Below.refl _ _))
    have HR1 := Lib.hid (HR.out.below HO.out.1)
    unfold noneBlk at HO HR1
    clear hr hA
    go_enter Tryz.func47, Tryz.ntmps47
    go_wp2_with (refine wpList_append_rd rfl _ _ rfl w _ [] rfl HO.out (some a) n cap zs rfl HA.out HR1.out (by simp; omega) ?_)
    intro v1 w1 hO1 _ _
    have HO2 := Lib.hid hO1
    clear hO1
    go_wp2
    go_ret
    exact ⟨_, rfl, HO2.out⟩
theorem row_made (w : World) (lo : Nat) (hlo : lo ≤ w.heap.size) : (w.alloc (.cells #[] 67)).ownsRow lo 67 4 (.slice (some ⟨w.heap.size, 0, none⟩) 0 0) 0 [] :=
  ⟨by simp, .inr ⟨w.heap.size, 0, #[], rfl, hlo, heap_alloc_new w _, Nat.le_refl _, by unfold maxLen; omega, rfl, rfl⟩⟩
def ClE (w : World) (n : Nat) (xs : List EA) (e : Ending) (w' : World) : Prop := ∃ v, e = .returned v ∧ w'.ownsRow w.heap.size 67 4 v n (rowE xs) ∧ Below w.heap.size w w'
theorem cloneE_any (A : Option Addr) (n cap : Nat) (xs : List EA) (w : World) (hr : RdE w A n xs) (hA : A = none → cap = 0) (hn : n ≤ 1000000) : Calls Tryz.prog 81 #[.slice A n cap] w (ClE w n xs) := by
  have q := fun (w : World) (a : Option Addr) (l c : Nat) => run_eql_slice_nil (P := Tryz.prog) w 30 67 a l c Tryz.underlying30
  cases A with
  | none =>
    have hn0 : n = 0 := by
      rcases Nat.eq_zero_or_pos n with h0 | h0
      · exact h0
      · obtain ⟨b, off, he, _⟩ := hr.at' h0; cases he
    subst hn0
    obtain rfl : xs = [] := List.eq_nil_of_length_eq_zero hr.len
    obtain rfl := hA rfl
    clear hr hA
    go_enter Tryz.func81, Tryz.ntmps81
    go_wp2
    go_ret
    exact ⟨_, rfl, row_nil _ _ _ _, Below.refl _ _⟩
  | some a =>
    have HA := Lib.hid hA
    have HO := Lib.hid (row_made w w.heap.size (Nat.le_refl _))
    have HB := Lib.hid (alloc_below' w (.cells #[] 67))
    have HR1 := Lib.hid (hr.below HB.out)
    clear hr hA
    go_enter Tryz.func81, Tryz.ntmps81
    go_wp2_with (refine wpList_append_rowE rfl _ _ rfl w.heap.size _ 0 [] rfl HO.out (some a) n cap xs rfl HR1.out HA.out (by omega) HB.out.size ?_)
    intro v1 w1 hO1 hg1 _
    have HO2 := Lib.hid hO1
    have HG := Lib.hid hg1
    clear hO1 hg1
    go_wp2
    go_ret
    exact ⟨_, rfl, HO2.out, HB.out.grown HG.out HB.out.size (fun i hi => by cases hi; exact Nat.le_refl _)⟩

/-! ### copied -/
theorem rowE_set (ys : List EA) (x : EA) (r : List EA) (k : Nat) (hk : ys.length = k) (A : Option Addr) (c : Nat) : (rowE (ys ++ x :: r)).set (k * 4 + 3) (.slice A x.e.data.length c) = rowE (ys ++ [⟨x.e, A, c⟩] ++ r) := by
  subst hk
  rw [rowE_append, rowE_append, rowE_append, List.append_assoc, List.set_append_right _ _ (by rw [rowE_len]; omega), rowE_len, Nat.add_sub_cancel_left]
  rfl
def Cpd (w : World) (n : Nat) (xs : List En) (e : Ending) (w' : World) : Prop := ∃ v ys, e = .returned v ∧ ens ys = xs ∧ w'.ownsRow w.heap.size 67 4 v n (rowE ys) ∧ DatO w.heap.size w' ys ∧ Below w.heap.size w w'
set_option maxRecDepth 100000 in
set_option maxHeartbeats 1600000 in
theorem copied_any (A : Option Addr) (n cap : Nat) (xs : List EA) (w : World) (hr : RdE w A n xs) (hA : A = none → cap = 0) (hn : n ≤ 1000000) (hd : ∀ x ∈ xs, x.e.data.length ≤ 140737488351232) : Calls Tryz.prog 45 #[.slice A n cap] w (Cpd w n (ens xs)) := by
  have HC := Lib.hid (cloneE_any A n cap xs w hr hA hn)
  have HL := Lib.hid hr.len
  have HD := Lib.hid hr.dat
  have HDL := Lib.hid hd
  clear hr hA hd
  go_enter Tryz.func45, Tryz.ntmps45
  go_wp2_with fail
  refine HC.out.mono ?_
  rintro e w1 ⟨v, rfl, hrow, hbel⟩
  obtain ⟨VA, vc, rfl, hform, hle, hcm, hnil⟩ := row_slice hrow
  unfold maxLen at hcm
  have HB1 := Lib.hid hbel
  have HR1 := Lib.hid hrow
  have HNIL := Lib.hid hnil
  have HF := Lib.hid hform
  clear hrow hbel hnil hform
  go_wp2_with fail
  go_loopw [9] (fun i wr => ∃ (k : Nat) (ys : List EA), k ≤ n ∧ i = .int .i64 k ∧ ys.length = k ∧ ens ys = (ens xs).take k ∧ wr.ownsRow w.heap.size 67 4 (.slice VA n vc) n (rowE (ys ++ xs.drop k)) ∧ DatO w.heap.size wr ys ∧ Below w.heap.size w wr) (fun i _ => n - (intOf i).toNat)
  case atStart => exact ⟨0, [], Nat.zero_le _, rfl, rfl, rfl, HR1.out, DatO.nil _ _, HB1.out⟩
  case round =>
    obtain ⟨k, ys, hk, rfl, hyl, hye, hrow, hdat, hbel⟩ := hrel
    have HYL := Lib.hid hyl
    have HYE := Lib.hid hye
    have HROW := Lib.hid hrow
    have HDAT := Lib.hid hdat
    have HBEL := Lib.hid hbel
    clear hyl hye hrow hdat hbel
    by_cases hlt : k < n
    · have hkx : k < xs.length := by have := HL.out; omega
      obtain ⟨g, rfl⟩ : ∃ g, VA = some ⟨g, 0, none⟩ := by
        cases VA with
        | none => have := (HNIL.out rfl).2; omega
        | some a =>
          obtain ⟨h1, h2⟩ := HF.out a rfl
          obtain ⟨b, off, sp⟩ := a
          simp only at h1 h2
          subst h1 h2
          exact ⟨b, rfl⟩
      have HX := Lib.hid (show xs.drop k = xs.getD k ea0 :: xs.drop (k + 1) by
        rw [List.drop_eq_getElem_cons hkx, List.getD_eq_getElem?_getD, List.getElem?_eq_getElem hkx]; rfl)
      have HMEM := Lib.hid (show xs.getD k ea0 ∈ xs by rw [List.getD_eq_getElem?_getD, List.getElem?_eq_getElem hkx]; exact List.getElem_mem _)
      have HTK := Lib.hid (show (ens xs).take (k + 1) = (ens xs).take k ++ [(xs.getD k ea0).e] by
        rw [List.take_add_one, List.getElem?_eq_getElem (by rw [ens_len]; exact hkx), List.getD_eq_getElem?_getD, List.getElem?_eq_getElem hkx]; simp [ens])
      generalize xs.getD k ea0 = x at *
      obtain ⟨e, XA, xc⟩ := x
      have HRD := Lib.hid (HD.out _ HMEM.out)
      have HLE := Lib.hid (HDL.out _ HMEM.out)
      simp only at HRD HLE HTK
      have HROW2 := Lib.hid (show wr.ownsRow w.heap.size 67 4 (.slice (some ⟨g, 0, none⟩) n vc) n (rowE (ys ++ ⟨e, XA, xc⟩ :: xs.drop (k + 1))) by rw [← HX.out]; exact HROW.out)
      have hcell : (rowE (ys ++ (⟨e, XA, xc⟩ : EA) :: xs.drop (k + 1)))[k * 4 + 3]? = some (.slice XA e.data.length xc) := by
        rw [rowE_at _ k 3 (by rw [List.length_append, HYL.out]; simp) (by omega), List.getD_eq_getElem?_getD, List.getElem?_append_right (by rw [HYL.out]; exact Nat.le_refl _), HYL.out]
        simp [EA.cells]
      obtain ⟨c3, f3⟩ := row_cells HROW2.out _ _ hcell
      have HCELL := Lib.hid hcell
      clear hcell
      have HCL := Lib.hid (clone8_any XA e.data.length xc e.data wr (HRD.out.1.of_same (fun a c hc => HBEL.out.cell (lt_of_cell hc))) HRD.out.2 (by have := HLE.out; omega))
      have k0 : (0 : Int) ≤ (k : Int) := by omega
      have k1 : (k : Int) < (n : Int) := by omega
      obtain ⟨D, hD⟩ : ∃ D, e.data.length = D := ⟨_, rfl⟩
      have HDD := Lib.hid hD
      rw [hD] at c3 HCL
      clear hD
      go_wp2_with fail
      refine HCL.out.mono ?_
      rintro e2 w2 ⟨v2, rfl, hO⟩
      obtain ⟨A2, c2, rfl, hs2, _⟩ := hO.sl D HDD.out
      have HR2 := Lib.hid (row_of HROW2.out (fun i hi => hO.1.block i (row_lo HROW2.out i hi).2))
      have HD2 := Lib.hid (HDAT.out.below hO.1)
      have HN2 := Lib.hid (show DatO w.heap.size w2 [⟨e, A2, c2⟩] by
        intro x hx
        simp only [List.mem_singleton] at hx
        subst hx
        refine ⟨hO.2.1, ?_⟩
        simp only
        have := hO.2.2
        rw [HDD.out] at this ⊢
        exact row_lower this HBEL.out.size)
      have HB2 := Lib.hid (HBEL.out.trans (hO.1.mono HBEL.out.size))
      obtain ⟨c3', f3'⟩ := row_cells HR2.out _ _ HCELL.out
      clear hO hs2 c3 f3
      go_wp2
      go_roundw
      case rel =>
        have hset := row_set HR2.out (k * 4 + 3) (.slice A2 D c2)
        have hlo := row_lo HR2.out g rfl
        have hne : ∀ x ∈ ys ++ [(⟨e, A2, c2⟩ : EA)], ∀ i, (Value.slice x.A x.e.data.length x.cap).ownBlock = some i → (w2.setCell ⟨g, k * 4 + 3, none⟩ (.slice A2 D c2)).heap[i]? = w2.heap[i]? := fun x hx i hi =>
          Below.heap_setCell _ _ _ _ (fun h => rows_ne ((HD2.out.append HN2.out) x hx).2 HR2.out (by decide) i hi (by rw [h]; rfl))
        refine ⟨k + 1, ys ++ [⟨e, A2, c2⟩], by omega, by go_num, by rw [List.length_append, HYL.out]; rfl, by rw [ens_append, HYE.out, HTK.out]; rfl, ?_, (HD2.out.append HN2.out).of hne, HB2.out.setCell hlo.1 _⟩
        have := rowE_set ys ⟨e, XA, xc⟩ (xs.drop (k + 1)) k HYL.out A2 c2
        simp only at this
        rw [HDD.out] at this
        rw [← this]
        exact hset
      case measure => simp [intOf]; omega
    · obtain rfl : k = n := by omega
      go_wp2
      go_ret
      have hdr : xs.drop k = [] := List.drop_eq_nil_of_le (by rw [HL.out]; exact Nat.le_refl _)
      have hrw := HROW.out
      rw [hdr, List.append_nil] at hrw
      exact ⟨_, ys, rfl, by rw [HYE.out, ← HL.out, ← ens_len, List.take_length], hrw, HDAT.out, HBEL.out⟩
end Go.Proofs.YtjadfpcipicckaaGreat.Rg
