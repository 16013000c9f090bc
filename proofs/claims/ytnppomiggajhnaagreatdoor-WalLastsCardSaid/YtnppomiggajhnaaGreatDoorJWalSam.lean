/-
  Several texts in one: Layer 6: SameEntries. Conditions: the lists can be read. Layer 6: the law's logs in memory; Right, Last and Copy of them. Conditions: as each theorem states. Layer 6: Copy of the law's logs. Conditions: the log can be read. Layer 6: rows of the law's logs; the logs that an Append asks for, one by one. Conditions: the log and the step can be read, the entries are valid and in order. Layer 6: awake. Conditions: the table and the error of the shelf lie in memory (Base).
-/
import Derived.Test.YtnppomiggajhnaaGreatDoorJWalIny
import Derived.Deep.QuietTactic
import Derived.BigQuiet
import Derived.Deep.RegionLaw
import Derived.Deep.RegionHeld3
import Derived.Test.YtnppomiggajhnaaGreatDoorJDiskSn
import Derived.Test.YtnppomiggajhnaaGreatDoorJDiskRead
namespace Go.Proofs.YtnppomiggajhnaaGreatDoor.Wl
open Go.RowKit Go.Proofs.YtnppomiggajhnaaGreatDoor.Fld
set_option linter.unusedVariables false

def XE.q (x : XE) : Int × Int × Int × List Int := (x.i, x.t, x.k, x.d)
def E.q (e : E) : Int × Int × Int × List Int := (e.idx, e.term, e.kind, e.data)
/-- an entry of a row's as one that comes in -/
def EA.x (a : EA) : XE := ⟨a.e.idx, a.e.term, a.e.kind, a.e.data, a.A, a.cap⟩
theorem qs_x (ys : List EA) : (ys.map EA.x).map XE.q = (ens ys).map E.q := by
  unfold ens
  rw [List.map_map, List.map_map]
  rfl
theorem qs_e {l : List XE} (h : ∀ x ∈ l, okX x = true) : l.map XE.q = (l.map XE.e).map E.q := by
  rw [List.map_map]
  apply List.map_congr_left
  intro x hx
  have := (okX_iff x).1 (h x hx)
  show (x.i, x.t, x.k, x.d) = ((x.i.toNat : Int), (x.t.toNat : Int), (x.k.toNat : Int), x.d)
  rw [Int.toNat_of_nonneg (by omega), Int.toNat_of_nonneg (by omega), Int.toNat_of_nonneg (by omega)]
theorem get_rdx {w w' : World} {l : List E} {e : Ending} (h : GetIs w l e w') : ∃ A cap ys, e = .returned (.slice A ys.length cap) ∧ RdX w' A ys.length ys ∧ ys.map XE.q = l.map E.q ∧ Below w.heap.size w w' := by
  obtain ⟨v, ys, rfl, hl, hr, hd, hb⟩ := h
  obtain ⟨A, cap, rfl, hA, h1, h2, h3⟩ := row_slice hr
  have hlen : (ys.map EA.x).length = ys.length := List.length_map ..
  refine ⟨A, cap, ys.map EA.x, by rw [hlen], ⟨rfl, by rw [hlen]; omega, fun hn => ?_, fun x hx => ?_⟩, by rw [qs_x, hl], hb⟩
  · rw [hlen] at hn
    cases A with
    | none => have := (h3 rfl).2; omega
    | some a =>
      obtain ⟨b, off, sp⟩ := a
      obtain ⟨q1, q2⟩ := hA _ rfl
      simp only at q1 q2
      subst q1 q2
      refine ⟨b, 0, rfl, fun i hi j hj => ?_⟩
      have hi' : i < ys.length := by rw [hlen] at hi; exact hi
      have hrow := rowE_at ys i j hi' hj
      obtain ⟨u, hu⟩ : ∃ u, (ys.getD i ea0).cells[j]? = some u := ⟨_, List.getElem?_eq_getElem (show j < (ys.getD i ea0).cells.length from hj)⟩
      rw [hu] at hrow
      have hc := (row_cells hr _ _ hrow).1
      have e1 : (ys.map EA.x)[i].cells[j]? = some u := by
        rw [List.getElem_map, ← hu, List.getD_eq_getElem?_getD, List.getElem?_eq_getElem hi']
        rfl
      rw [e1, show (0 : Nat) + i * 4 + j = i * 4 + j by omega]
      exact hc
  · obtain ⟨y, hy, rfl⟩ := List.mem_map.1 hx
    have h4 := hd y hy
    have hs := h4.sl
    exact ⟨hs.1, hs.2.2.2.1⟩
theorem q_take {xs ys : List XE} {k : Nat} (h1 : k < xs.length) (h2 : k < ys.length) (h : (xs.take k).map XE.q = (ys.take k).map XE.q) (hq : xs[k].q = ys[k].q) : (xs.take (k + 1)).map XE.q = (ys.take (k + 1)).map XE.q := by
  rw [List.take_add_one, List.getElem?_eq_getElem h1, List.take_add_one, List.getElem?_eq_getElem h2, List.map_append, List.map_append, h]
  simp [hq]
theorem q_ne {xs ys : List XE} {k : Nat} (h1 : k < xs.length) (h2 : k < ys.length) (hq : xs[k].q ≠ ys[k].q) : xs.map XE.q ≠ ys.map XE.q := by
  intro h
  have e := congrArg (fun l => l[k]?) h
  simp only [List.getElem?_map, List.getElem?_eq_getElem h1, List.getElem?_eq_getElem h2, Option.map_some, Option.some.injEq] at e
  exact hq e
def SameIs (xs ys : List XE) (w : World) (e : Ending) (w' : World) : Prop := ∃ b, e = .returned (.bool b) ∧ (b = true ↔ xs.map XE.q = ys.map XE.q) ∧ Still w w'
theorem SameIs.no {xs ys : List XE} {w w' : World} (h : xs.map XE.q ≠ ys.map XE.q) (hs : Still w w') : SameIs xs ys w (.returned (.bool false)) w' := ⟨false, rfl, by simp [h], hs⟩
set_option maxRecDepth 100000 in
set_option maxHeartbeats 3200000 in
theorem same_any (A : Option Addr) (n cap : Nat) (xs : List XE) (B : Option Addr) (m cap' : Nat) (ys : List XE) (w : World) (hr : RdX w A n xs) (hr' : RdX w B m ys) : Calls Tryz.prog 29 #[.slice A n cap, .slice B m cap'] w (SameIs xs ys w) := by
  have HR := Lib.hid hr
  have HS := Lib.hid hr'
  have HLX := Lib.hid hr.1
  have HLY := Lib.hid hr'.1
  have hm := hr.2.1
  unfold maxLen at hm
  clear hr hr'
  by_cases hnm : n = m
  rotate_left
  · have HN := Lib.hid (SameIs.no (w := w) (w' := w) (show xs.map XE.q ≠ ys.map XE.q from fun h => by have := congrArg List.length h; simp only [List.length_map] at this; have := HLX.out; have := HLY.out; omega) (Still.refl _))
    have h1 : ¬ (n : Int) = (m : Int) := by omega
    go_enter Tryz.func29, Tryz.ntmps29
    go_wp2
    go_ret
    exact HN.out
  subst hnm
  go_enter Tryz.func29, Tryz.ntmps29
  go_wp2
  go_loopw [5] (fun i wr => ∃ k : Nat, k ≤ n ∧ i = .int .i64 k ∧ Still w wr ∧ (xs.take k).map XE.q = (ys.take k).map XE.q) (fun i _ => n - (intOf i).toNat)
  case atStart => exact ⟨0, Nat.zero_le _, rfl, Still.refl _, by simp⟩
  case round =>
    obtain ⟨k, hk, rfl, hst, heq⟩ := hrel
    have HST := Lib.hid hst
    have HEQ := Lib.hid heq
    have HBL := Lib.hid (still_below hst)
    clear hst heq
    by_cases hlt : k < n
    · have hkx : k < xs.length := by have := HLX.out; omega
      have hky : k < ys.length := by have := HLY.out; omega
      obtain ⟨b, off, rfl, q⟩ := HR.out.at4 HBL.out k hkx
      obtain ⟨b', off', rfl, p⟩ := HS.out.at4 HBL.out k hky
      have q0 : wr.cell? ⟨b, off + k * 4, none⟩ = some (.int .i64 xs[k].i) := q 0 _ (by omega) rfl
      have q1 := q 1 (.int .i64 xs[k].t) (by omega) rfl
      have q2 := q 2 (.int .i64 xs[k].k) (by omega) rfl
      have q3 := q 3 (.slice xs[k].A xs[k].d.length xs[k].cap) (by omega) rfl
      have p0 : wr.cell? ⟨b', off' + k * 4, none⟩ = some (.int .i64 ys[k].i) := p 0 _ (by omega) rfl
      have p1 := p 1 (.int .i64 ys[k].t) (by omega) rfl
      have p2 := p 2 (.int .i64 ys[k].k) (by omega) rfl
      have p3 := p 3 (.slice ys[k].A ys[k].d.length ys[k].cap) (by omega) rfl
      have r1 := ((HR.out.below HBL.out).2.2.2 _ (List.getElem_mem hkx)).1
      have r2 := ((HS.out.below HBL.out).2.2.2 _ (List.getElem_mem hky)).1
      have HD1 := Lib.hid (fun (j : Nat) => conv_str (r1.drewN j) xs[k].cap)
      have HD2 := Lib.hid (fun (j : Nat) => conv_str (r2.drewN j) ys[k].cap)
      have HSE := Lib.hid (str_eq r1.2.2.1 r2.2.2.1)
      have HTK := Lib.hid (q_take hkx hky HEQ.out)
      have HNE := Lib.hid (q_ne hkx hky)
      clear q p r1 r2
      generalize xs[k] = x at *
      generalize ys[k] = y at *
      obtain ⟨xi, xt, xk, xd, XA, xc⟩ := x
      obtain ⟨yi, yt, yk, yd, YA, yc⟩ := y
      unfold XE.q at HTK HNE
      simp only at q0 q1 q2 q3 p0 p1 p2 p3 HD1 HD2 HSE HTK HNE
      have k0 : (0 : Int) ≤ (k : Int) := by omega
      have k1 : (k : Int) < (n : Int) := by omega
      have c1 := HD1.out
      have c2 := HD2.out
      by_cases e0 : xi = yi
      rotate_left
      · have s0 : (xi == yi) = false := by simpa using e0
        have n0 : (xi != yi) = true := by simpa using e0
        have d0 : decide (xi = yi) = false := decide_eq_false e0
        have HF := Lib.hid (HNE.out (fun h => e0 (by exact congrArg Prod.fst h)))
        go_wp2_with fail
        go_quiet (fail)
        go_wp2
        go_ret
        exact SameIs.no HF.out (HST.out.trans (Still.drewN (Still.refl _) _))
      have s0 : (xi == yi) = true := by simpa using e0
      by_cases e1 : xt = yt
      rotate_left
      · have s1 : (xt == yt) = false := by simpa using e1
        have n1 : (xt != yt) = true := by simpa using e1
        have d1 : decide (xt = yt) = false := decide_eq_false e1
        have HF := Lib.hid (HNE.out (fun h => e1 (by exact congrArg (fun z => z.2.1) h)))
        go_wp2_with fail
        go_quiet (fail)
        go_wp2
        go_ret
        exact SameIs.no HF.out (HST.out.trans (Still.drewN (Still.refl _) _))
      have s1 : (xt == yt) = true := by simpa using e1
      by_cases e2 : xk = yk
      rotate_left
      · have s2 : (xk == yk) = false := by simpa using e2
        have n2 : (xk != yk) = true := by simpa using e2
        have d2 : decide (xk = yk) = false := decide_eq_false e2
        have HF := Lib.hid (HNE.out (fun h => e2 (by exact congrArg (fun z => z.2.2.1) h)))
        go_wp2_with fail
        go_quiet (fail)
        go_wp2
        go_ret
        exact SameIs.no HF.out (HST.out.trans (Still.drewN (Still.refl _) _))
      have s2 : (xk == yk) = true := by simpa using e2
      have t3 := HSE.out
      generalize Fld.str xd = SX at *
      generalize Fld.str yd = SY at *
      by_cases e3 : xd = yd
      rotate_left
      · have t4 : (SX.toList == SY.toList) = false := by rw [t3]; simp [e3]
        have HF := Lib.hid (HNE.out (fun h => e3 (congrArg (fun z => z.2.2.2) h)))
        clear e3 t3
        generalize xd.length = DX at *
        generalize yd.length = DY at *
        go_wp2_with fail
        go_quiet (fail)
        go_wp2
        go_ret
        exact SameIs.no HF.out (HST.out.trans (Still.drewN (Still.refl _) _))
      have t4 : (SX.toList == SY.toList) = true := by rw [t3]; simp [e3]
      have HF := Lib.hid (HTK.out (by rw [e0, e1, e2, e3]))
      clear e3 t3
      generalize xd.length = DX at *
      generalize yd.length = DY at *
      go_wp2_with fail
      go_quiet (fail)
      go_wp2
      go_roundw
      case rel => exact ⟨k + 1, by omega, by go_num, HST.out.trans (Still.drewN (Still.refl _) _), HF.out⟩
      case measure => simp [intOf]; omega
    · obtain rfl : k = n := by omega
      have HFI := Lib.hid (show SameIs xs ys w (.returned (.bool true)) wr from ⟨true, rfl, by have h := HEQ.out; rw [List.take_of_length_le (by have := HLX.out; omega), List.take_of_length_le (by have := HLY.out; omega)] at h; simp [h], HST.out⟩)
      go_wp2
      go_ret
      exact HFI.out
end Go.Proofs.YtnppomiggajhnaaGreatDoor.Wl

namespace Go.Proofs.YtnppomiggajhnaaGreatDoor.Wl
open Go.RowKit Go.Proofs.YtnppomiggajhnaaGreatDoor.Fld
set_option linter.unusedVariables false

def rowX (l : List XE) : List Value := l.flatMap XE.cells
theorem rowX_len (l : List XE) : (rowX l).length = l.length * 4 := by
  induction l with
  | nil => rfl
  | cons x l ih => show (x.cells ++ rowX l).length = _; rw [List.length_append, ih, List.length_cons]; show 4 + _ = _; omega
theorem rowX_append (a b : List XE) : rowX (a ++ b) = rowX a ++ rowX b := by simp [rowX]
theorem rowX_at (a : List XE) (k j : Nat) (h : k < a.length) (hj : j < 4) : (rowX a)[k * 4 + j]? = a[k].cells[j]? := by
  have h1 : rowX a = rowX (a.take k) ++ rowX (a.drop k) := by rw [← rowX_append, List.take_append_drop]
  have h2 : (rowX (a.take k)).length = k * 4 := by rw [rowX_len, List.length_take, Nat.min_eq_left (by omega)]
  rw [h1, List.getElem?_append_right (by omega), h2, Nat.add_sub_cancel_left, List.drop_eq_getElem_cons h]
  show (a[k].cells ++ rowX (a.drop (k + 1)))[j]? = _
  rw [List.getElem?_append_left (show j < 4 from hj)]
theorem rowX_one (a : List XE) : ∀ u ∈ rowX a, u.oneCell' = true := by
  intro u hu
  simp only [rowX, List.mem_flatMap] at hu
  obtain ⟨x, _, hx⟩ := hu
  simp [XE.cells] at hx
  rcases hx with rfl | rfl | rfl | rfl <;> rfl
theorem row_rdX {w : World} {lo n : Nat} {v : Value} {ls : List XE} (hr : w.ownsRow lo 63 4 v n (rowX ls)) (hn : ls.length = n) (hd : ∀ x ∈ ls, x.At w) : ∃ A cap, v = .slice A n cap ∧ RdX w A n ls ∧ n ≤ cap ∧ cap ≤ maxLen ∧ (A = none → cap = 0) := by
  obtain ⟨A, cap, rfl, hA, h1, h2, h3⟩ := row_slice hr
  refine ⟨A, cap, rfl, ⟨hn, by omega, fun hp => ?_, hd⟩, h1, h2, fun h => (h3 h).1⟩
  cases A with
  | none => have := (h3 rfl).2; omega
  | some a =>
    obtain ⟨b, off, sp⟩ := a
    obtain ⟨q1, q2⟩ := hA _ rfl
    simp only at q1 q2
    subst q1 q2
    refine ⟨b, 0, rfl, fun i hi j hj => ?_⟩
    have hrow := rowX_at ls i j hi hj
    obtain ⟨u, hu⟩ : ∃ u, ls[i].cells[j]? = some u := ⟨_, List.getElem?_eq_getElem (show j < ls[i].cells.length from hj)⟩
    rw [hu] at hrow ⊢
    have hc := (row_cells hr _ _ hrow).1
    rw [show (0 : Nat) + i * 4 + j = i * 4 + j by omega]
    exact hc
theorem rdX_cell {w : World} {b off n : Nat} {ys : List XE} (hr : RdX w (some ⟨b, off, none⟩) n ys) : ∀ j u, (rowX ys)[j]? = some u → w.cell? ⟨b, off + j, none⟩ = some u := by
  intro j u hu
  have hj : j < (rowX ys).length := (List.getElem?_eq_some_iff.1 hu).1
  rw [rowX_len] at hj
  have hk : j / 4 < ys.length := by omega
  obtain ⟨b', off', he, hc⟩ := hr.2.2.1 (by have := hr.1; omega)
  cases he
  have h1 := rowX_at ys (j / 4) (j % 4) hk (by omega)
  rw [show j / 4 * 4 + j % 4 = j by omega, hu] at h1
  have h2 := hc (j / 4) hk (j % 4) (by omega)
  rw [← h1, Nat.add_assoc, show j / 4 * 4 + j % 4 = j by omega] at h2
  exact h2
/-- append of entries onto a row of a call's own -/
theorem run_append_rowX (w : World) (ty : TypeId) (lo : Nat) (v : Value) (n : Nat) (xs : List Value) (hown : w.ownsRow lo 63 4 v n xs) (A : Option Addr) (m c : Nat) (ys : List XE) (hr : RdX w A m ys) (hA : A = none → c = 0) (hb : n + m ≤ 2000000) (hlo : lo ≤ w.heap.size) :
    ∃ v' w', (Builtin.append_ #[42, 42] ty #[v, .slice A m c]).run Tryz.prog w = .ok v' w' ∧ w'.ownsRow lo 63 4 v' (n + m) (xs ++ rowX ys) ∧ w.grownBy w' v.ownBlock ∧ (v'.ownBlock = v.ownBlock ∨ v'.ownBlock = some w.heap.size) := by
  obtain ⟨inf, i1, i2, i3, i4⟩ := entry_info
  cases A with
  | none =>
    have hm : m = 0 := by
      rcases Nat.eq_zero_or_pos m with h | h
      · exact h
      · obtain ⟨b, off, he, _⟩ := hr.2.2.1 h; cases he
    subst hm
    obtain rfl : ys = [] := List.eq_nil_of_length_eq_zero hr.1
    obtain rfl := hA rfl
    refine ⟨v, w, run_append_owned_none (P := Tryz.prog) (w := w) lo 42 ty 63 inf 4 Tryz.underlying42 i1 v n xs hown, ?_, ⟨rfl, rfl, rfl, Nat.le_refl _, fun _ _ _ => rfl⟩, .inl rfl⟩
    rw [show rowX [] = [] from rfl, List.append_nil]
    exact hown
  | some ad =>
    obtain ⟨v', w', hrun, hrow, hg, _, hat⟩ := run_append_own_at (P := Tryz.prog) w lo 42 ty 63 inf _ 4 48 Tryz.underlying42 i1 i2 i3 i4 rfl (by omega) v n xs hown ad m c (rowX ys) (by rw [rowX_len, hr.1]) (by
      intro j u hu
      have hj : j < (rowX ys).length := (List.getElem?_eq_some_iff.1 hu).1
      rw [rowX_len, hr.1] at hj
      obtain ⟨b, off, he, hc⟩ := hr.2.2.1 (by omega)
      cases he
      rw [add_atB]
      exact rdX_cell hr j u hu) (rowX_one ys) (by unfold maxLen; omega) (by omega) hlo
    exact ⟨v', w', hrun, hrow, hg, hat⟩
theorem step_append_rowX {w : World} {ops : Array Oper} {o : Oper} {a : Act} {K : Act → World → Prop} {Q : Exit → Act → World → Prop} {E : Prop} (hgd : o.guard = none) (s x : Operand)
    (ho : o.op = .call { callee := .builtin .append, args := #[s, x], argTypes := #[42, 42] })
    (lo : Nat) (v : Value) (n : Nat) (xs : List Value) (hs : a.eval s = v) (hown : w.ownsRow lo 63 4 v n xs)
    (A : Option Addr) (m c : Nat) (ys : List XE) (hx : a.eval x = .slice A m c) (hr : RdX w A m ys) (hA : A = none → c = 0) (hb : n + m ≤ 2000000) (hlo : lo ≤ w.heap.size)
    (h : ∀ v' w', w'.ownsRow lo 63 4 v' (n + m) (xs ++ rowX ys) → w.grownBy w' v.ownBlock → (v'.ownBlock = v.ownBlock ∨ v'.ownBlock = some w.heap.size) → K (a.put o.dst v') w') :
    if Region.wanted o (yielded ops a.tmps) = true then Oper.wp Tryz.prog o a w K Q else E := by
  have hw : Region.wanted o (yielded ops a.tmps) = true := by simp [Region.wanted, hgd]
  rw [if_pos hw]
  obtain ⟨v', w', hrun, h1, h2, h3⟩ := run_append_rowX w o.type lo v n xs hown A m c ys hr hA hb hlo
  unfold Oper.wp execOp
  simp only [ho, resolve, invoke, builtin, Sem.run_bind, Sem.run_pure, Result.andThen_ok, List.map_toArray, List.map_cons, List.map_nil, hs, hx, hrun]
  exact h v' w' h1 h2 h3
/-- a log of the law's -/
structure LX where
  base : Int
  A : Option Addr
  n : Nat
  cap : Nat
  ls : List XE
def LX.cells (g : LX) : List Value := [.int .i64 g.base, .slice g.A g.n g.cap]
def LX.val (g : LX) : Value := .agg #[.int .i64 g.base, .slice g.A g.n g.cap]
structure LX.At (w : World) (g : LX) : Prop where
  rd : RdX w g.A g.n g.ls
  le : g.n ≤ g.cap
  most : g.cap ≤ maxLen
  nil : g.A = none → g.cap = 0
theorem LX.At.below {w w' : World} {g : LX} (h : g.At w) (hb : Below w.heap.size w w') : g.At w' := ⟨h.rd.below hb, h.le, h.most, h.nil⟩
/-- base and entries, as they read -/
def LX.q (g : LX) : Int × List (Int × Int × Int × List Int) := (g.base, g.ls.map XE.q)
set_option maxRecDepth 100000 in
theorem llast_any (g : LX) (w : World) (hb : -1099511627776 ≤ g.base ∧ g.base ≤ 1099511627776) (hn : g.n ≤ 1000000) : Calls Tryz.prog 31 #[g.val] w fun e w' => e = .returned (.int .i64 (g.base + (g.n : Int))) ∧ Below w.heap.size w w' := by
  have HB := Lib.hid (alloc_below' w (.cells #[.int .i64 g.base, .slice g.A g.n g.cap] 52))
  have hk := Blk.new w #[.int .i64 g.base, .slice g.A g.n g.cap] 52
  have c0 := hk.cell 0 _ rfl
  have c1 := hk.cell 1 _ rfl
  clear hk
  obtain ⟨base, A, n, cap, ls⟩ := g
  unfold LX.val
  simp only at HB c0 c1 hb hn ⊢
  obtain ⟨b1, b2⟩ := hb
  go_enter Tryz.func31, Tryz.ntmps31
  go_wp2
  go_ret
  exact ⟨rfl, HB.out⟩
set_option maxRecDepth 100000 in
set_option maxHeartbeats 3200000 in
theorem right_ok (x : XE) (w : World) (h : okX x = true) : Calls Tryz.prog 74 #[x.val] w fun e w' => e = .returned (.bool true) ∧ Below w.heap.size w w' := by
  have HB := Lib.hid (alloc_below' w (.cells #[.int .i64 x.i, .int .i64 x.t, .int .i64 x.k, .slice x.A x.d.length x.cap] 63))
  have hk := Blk.new w #[.int .i64 x.i, .int .i64 x.t, .int .i64 x.k, .slice x.A x.d.length x.cap] 63
  have c0 := hk.cell 0 _ rfl
  have c1 := hk.cell 1 _ rfl
  have c2 := hk.cell 2 _ rfl
  have c3 := hk.cell 3 _ rfl
  obtain ⟨⟨⟨⟨⟨⟨h0, h1⟩, h2⟩, h3⟩, h4⟩, h5⟩, h6⟩ := (okX_iff x).1 h
  unfold XE.val
  clear hk h
  have d0 : decide (1 ≤ x.i) = true := decide_eq_true h0
  have d1 : decide (x.i ≤ 1099511627776) = true := decide_eq_true h1
  have d2 : decide (0 ≤ x.t) = true := decide_eq_true h2
  have d3 : decide (x.t ≤ 1099511627776) = true := decide_eq_true h3
  have d4 : decide (0 ≤ x.k) = true := decide_eq_true h4
  have d5 : decide (x.k ≤ 7) = true := decide_eq_true h5
  have d6 : decide ((x.d.length : Int) ≤ 4096) = true := decide_eq_true h6
  go_enter Tryz.func74, Tryz.ntmps74
  go_wp2
  go_ret
  exact ⟨rfl, HB.out⟩
end Go.Proofs.YtnppomiggajhnaaGreatDoor.Wl

namespace Go.Proofs.YtnppomiggajhnaaGreatDoor.Wl
open Go.RowKit Go.Proofs.YtnppomiggajhnaaGreatDoor.Fld
set_option linter.unusedVariables false

def CopyIs (g : LX) (w : World) (e : Ending) (w' : World) : Prop := ∃ v, e = .returned (.agg #[.int .i64 g.base, v]) ∧ w'.ownsRow w.heap.size 63 4 v g.n (rowX g.ls) ∧ Below w.heap.size w w'
set_option maxRecDepth 100000 in
set_option maxHeartbeats 3200000 in
theorem copy_any (g : LX) (w : World) (h : g.At w) (hn : g.n ≤ 1000000) : Calls Tryz.prog 75 #[g.val] w (CopyIs g w) := by
  obtain ⟨base, A, n, cap, ls⟩ := g
  unfold LX.val CopyIs
  simp only at hn ⊢
  have hb0 : Below w.heap.size w ((w.alloc (.cells #[.int .i64 base, .slice A n cap] 52)).alloc (.cells #[.int .i64 0, .slice none 0 0] 52)) := (alloc_below' w _).trans ((alloc_below' (w.alloc (.cells #[.int .i64 base, .slice A n cap] 52)) _).mono (alloc_below' w _).size)
  have hk1 := (Blk.new w #[.int .i64 base, .slice A n cap] 52).past (.cells #[.int .i64 0, .slice none 0 0] 52)
  have hk2 := Blk.new (w.alloc (.cells #[.int .i64 base, .slice A n cap] 52)) #[.int .i64 0, .slice none 0 0] 52
  rw [show (w.alloc (.cells #[.int .i64 base, .slice A n cap] 52)).heap.size = w.heap.size + 1 by simp] at hk2
  have HB0 := Lib.hid hb0
  have HK1 := Lib.hid hk1
  have HK2 := Lib.hid hk2
  have c0 := hk1.cell 0 (.int .i64 base) rfl
  have c1 := hk1.cell 1 (.slice A n cap) rfl
  have HAT := Lib.hid h
  have HSZ := Lib.hid (show ((w.alloc (.cells #[.int .i64 base, .slice A n cap] 52)).alloc (.cells #[.int .i64 0, .slice none 0 0] 52)).heap.size = w.heap.size + 2 by simp)
  clear h hk1 hk2 hb0
  go_enter Tryz.func75, Tryz.ntmps75
  go_wp2_with fail
  generalize hwb : (w.alloc (.cells #[.int .i64 base, .slice A n cap] 52)).alloc (.cells #[.int .i64 0, .slice none 0 0] 52) = wb at *
  clear hwb
  have HRO := Lib.hid (show ((wb.alloc (.cells #[] 63)).drew).ownsRow w.heap.size 63 4 (.slice (some ⟨wb.heap.size, 0, none⟩) 0 0) 0 [] from row_madeE wb w.heap.size (by have := HSZ.out; omega))
  have HB2 := Lib.hid (show Below w.heap.size w (wb.alloc (.cells #[] 63)).drew from (HB0.out.alloc (by have := HSZ.out; omega) _).drew)
  have HK := Lib.hid (fun (W : World) (hW : W.heap[w.heap.size]? = wb.heap[w.heap.size]?) => show W.cell? ⟨w.heap.size, 0, none⟩ = some (.int .i64 base) ∧ W.cell? ⟨w.heap.size, 1, none⟩ = some (.slice A n cap) from ⟨(HK1.out.of hW).cell 0 _ rfl, (HK1.out.of hW).cell 1 _ rfl⟩)
  have a0 : ∀ ob, (wb.alloc ob).cell? ⟨w.heap.size, 0, none⟩ = some (.int .i64 base) := fun ob => (HK.out _ (Below.heap_alloc wb ob _ (by have := HSZ.out; omega))).1
  have a1 : ∀ ob, (wb.alloc ob).cell? ⟨w.heap.size, 1, none⟩ = some (.slice A n cap) := fun ob => (HK.out _ (Below.heap_alloc wb ob _ (by have := HSZ.out; omega))).2
  have HNB := Lib.hid (show some (w.heap.size + 1) ≠ (Value.slice (some ⟨wb.heap.size, 0, none⟩) 0 0).ownBlock from fun h => by have := HSZ.out; have h2 : w.heap.size + 1 = wb.heap.size := Option.some.inj h; omega)
  have HNA := Lib.hid (show some w.heap.size ≠ (Value.slice (some ⟨wb.heap.size, 0, none⟩) 0 0).ownBlock from fun h => by have := HSZ.out; have h2 : w.heap.size = wb.heap.size := Option.some.inj h; omega)
  have HLT := Lib.hid (show w.heap.size + 1 < (wb.alloc (.cells #[] 63)).drew.heap.size ∧ w.heap.size < (wb.alloc (.cells #[] 63)).drew.heap.size from by
    have := HSZ.out
    have h3 : (wb.alloc (.cells #[] 63)).drew.heap.size = wb.heap.size + 1 := by
      show (wb.alloc _).heap.size = _
      simp
    omega)
  go_region_law ((first
    | (refine step_append_rowX rfl _ _ rfl w.heap.size _ 0 [] rfl HRO.out A n cap ls rfl (HAT.out.rd.below HB2.out) HAT.out.nil (by omega) HB2.out.size ?_; intro v1 w1 hO1 hg1 _; obtain ⟨VA, vc, hvv, _⟩ := row_slice hO1; subst hvv; have HO1 := Lib.hid hO1; have HG1 := Lib.hid hg1; have hB1 := HK2.out.of ((hg1.block (w.heap.size + 1) HLT.out.1 HNB.out).trans (Below.heap_alloc wb _ _ (by have := HSZ.out; omega))); have HB1 := Lib.hid hB1; have y0 := (HK.out w1 ((hg1.block w.heap.size HLT.out.2 HNA.out).trans (Below.heap_alloc wb _ _ (by have := HSZ.out; omega)))).1; have f0 := hB1.free 0; have f1 := hB1.free 1; have z0 := hB1.cell 0 _ rfl; have z1 := hB1.cell 1 _ rfl; clear hO1 hg1 hB1)
    ))
  all_goals
    go_wp2
    have hO1 := HO1.out
    rw [Nat.zero_add, List.nil_append] at hO1
    have hG := heap_setCell_same _ (w.heap.size + 1) 1 _ _ (.slice VA n vc) (heap_setCell_same w1 (w.heap.size + 1) 0 _ _ (.int .i64 base) HB1.out)
    refine bodyPost_ret (results_cell_row Tryz.results75 _ _ (w.heap.size + 1) 52 #[.int .i64 base, .slice VA n vc] (0, 0) _ rfl hG Tryz.underlying52 rfl (by kernel_rfl)) rfl ?_
    have hne := row_ne hO1 HB1.out (by decide)
    have hro : ((w1.setCell ⟨w.heap.size + 1, 0, none⟩ (.int .i64 base)).setCell ⟨w.heap.size + 1, 1, none⟩ (.slice VA n vc)).ownsRow w.heap.size 63 4 (.slice VA n vc) n (rowX ls) := row_of (row_of hO1 (fun i hi => Below.heap_setCell _ _ _ _ (fun h => hne (by rw [hi, h])))) (fun i hi => Below.heap_setCell _ _ _ _ (fun h => hne (by rw [hi, h])))
    have hbl := HB2.out.grown HG1.out HB2.out.size (fun i hi => by
      have h2 : wb.heap.size = i := Option.some.inj hi
      have := HSZ.out
      omega)
    exact ⟨_, rfl, hro, (hbl.setCell (by simp) _).setCell (by simp) _⟩
end Go.Proofs.YtnppomiggajhnaaGreatDoor.Wl

namespace Go.Proofs.YtnppomiggajhnaaGreatDoor.Wl
open Go.RowKit Go.Proofs.YtnppomiggajhnaaGreatDoor.Fld
set_option linter.unusedVariables false

def rowL (l : List LX) : List Value := l.flatMap LX.cells
theorem rowL_len (l : List LX) : (rowL l).length = l.length * 2 := by
  induction l with
  | nil => rfl
  | cons x l ih => show (x.cells ++ rowL l).length = _; rw [List.length_append, ih, List.length_cons]; show 2 + _ = _; omega
theorem rowL_append (a b : List LX) : rowL (a ++ b) = rowL a ++ rowL b := by simp [rowL]
theorem rowL_at (a : List LX) (k j : Nat) (h : k < a.length) (hj : j < 2) : (rowL a)[k * 2 + j]? = a[k].cells[j]? := by
  have h1 : rowL a = rowL (a.take k) ++ rowL (a.drop k) := by rw [← rowL_append, List.take_append_drop]
  have h2 : (rowL (a.take k)).length = k * 2 := by rw [rowL_len, List.length_take, Nat.min_eq_left (by omega)]
  rw [h1, List.getElem?_append_right (by omega), h2, Nat.add_sub_cancel_left, List.drop_eq_getElem_cons h]
  show (a[k].cells ++ rowL (a.drop (k + 1)))[j]? = _
  rw [List.getElem?_append_left (show j < 2 from hj)]
theorem rowL_one (a : List LX) : ∀ u ∈ rowL a, u.oneCell' = true := by
  intro u hu
  simp only [rowL, List.mem_flatMap] at hu
  obtain ⟨x, _, hx⟩ := hu
  simp [LX.cells] at hx
  rcases hx with rfl | rfl <;> rfl
theorem log_info : ∃ i, Tryz.prog.info? 52 = some i ∧ i.zero = some (.agg #[.int .i64 0, .slice none 0 0]) ∧ i.size = 2 ∧ i.bytes = 32 := by
  have h : (Tryz.prog.info? 52).map (fun i => (i.zero, i.size, i.bytes)) = some (some (.agg #[.int .i64 0, .slice none 0 0]), 2, 32) := by kernel_rfl
  cases hq : Tryz.prog.info? 52 with
  | none => simp [hq] at h
  | some i => simp [hq] at h; exact ⟨i, rfl, h⟩
/-- append of logs that lie in a block of their own onto a row of a call's own -/
theorem run_append_rowL (w : World) (ty : TypeId) (lo : Nat) (v : Value) (n : Nat) (xs : List Value) (hown : w.ownsRow lo 52 2 v n xs) (ad : Addr) (m c : Nat) (ys : List LX) (hl : ys.length = m) (hr : ∀ j u, (rowL ys)[j]? = some u → w.cell? (ad.add j) = some u) (hb : n + m ≤ 2000000) (hlo : lo ≤ w.heap.size) :
    ∃ v' w', (Builtin.append_ #[53, 53] ty #[v, .slice (some ad) m c]).run Tryz.prog w = .ok v' w' ∧ w'.ownsRow lo 52 2 v' (n + m) (xs ++ rowL ys) ∧ w.grownBy w' v.ownBlock ∧ (v'.ownBlock = v.ownBlock ∨ v'.ownBlock = some w.heap.size) := by
  obtain ⟨inf, i1, i2, i3, i4⟩ := log_info
  obtain ⟨v', w', hrun, hrow, hg, _, hat⟩ := run_append_own_at (P := Tryz.prog) w lo 53 ty 52 inf _ 2 32 Tryz.underlying53 i1 i2 i3 i4 rfl (by omega) v n xs hown ad m c (rowL ys) (by rw [rowL_len, hl]) hr (rowL_one ys) (by unfold maxLen; omega) (by omega) hlo
  exact ⟨v', w', hrun, hrow, hg, hat⟩
theorem wpList_append_rowL {w : World} {ops : Array Oper} {rest : List Oper} {o : Oper} {a : Act} {Q : Exit → Act → World → Prop} (hgd : o.guard = none) (s x : Operand)
    (ho : o.op = .call { callee := .builtin .append, args := #[s, x], argTypes := #[53, 53] })
    (lo : Nat) (v : Value) (n : Nat) (xs : List Value) (hs : a.eval s = v) (hown : w.ownsRow lo 52 2 v n xs)
    (ad : Addr) (m c : Nat) (ys : List LX) (hx : a.eval x = .slice (some ad) m c) (hl : ys.length = m) (hr : ∀ j u, (rowL ys)[j]? = some u → w.cell? (ad.add j) = some u) (hb : n + m ≤ 2000000) (hlo : lo ≤ w.heap.size)
    (h : ∀ v' w', w'.ownsRow lo 52 2 v' (n + m) (xs ++ rowL ys) → w.grownBy w' v.ownBlock → (v'.ownBlock = v.ownBlock ∨ v'.ownBlock = some w.heap.size) → wpList Tryz.prog ops Q rest (a.put o.dst v') w') : wpList Tryz.prog ops Q (o :: rest) a w := by
  refine wpList_plain hgd fun K hK => ?_
  obtain ⟨v', w', hrun, h1, h2, h3⟩ := run_append_rowL w o.type lo v n xs hown ad m c ys hl hr hb hlo
  unfold Oper.wp execOp
  simp only [ho, resolve, invoke, builtin, Sem.run_bind, Sem.run_pure, Result.andThen_ok, List.map_toArray, List.map_cons, List.map_nil, hs, hx, hrun]
  exact hK _ _ (h v' w' h1 h2 h3)
/-- the logs that an Append asks for -/
def latA (g : Int × List (Int × Int × Int × List Int)) (l : List XE) (k : Nat) : List (Int × List (Int × Int × Int × List Int)) := (List.range k).map fun i => (g.1, g.2 ++ (l.take (i + 1)).map XE.q)
theorem latA_succ (g : Int × List (Int × Int × Int × List Int)) (l : List XE) (k : Nat) : latA g l (k + 1) = latA g l k ++ [(g.1, g.2 ++ (l.take (k + 1)).map XE.q)] := by unfold latA; rw [List.range_succ, List.map_append]; rfl
def LatIs (g : LX) (S : List XE) (G : List (Int × List (Int × Int × Int × List Int))) (w : World) (e : Ending) (w' : World) : Prop := ∃ v out, e = .returned v ∧ w'.ownsRow w.heap.size 52 2 v out.length (rowL out) ∧ (∀ z ∈ out, LX.At w' z ∧ (0 < z.n → ∀ a, z.A = some a → w.heap.size ≤ a.block ∨ (g.A = some a ∧ 0 < g.n)) ∧ ∀ y ∈ z.ls, y ∈ g.ls ∨ y ∈ S) ∧ out.map LX.q = G ∧ Below w.heap.size w w'
def Stp.val (s : Stp) : Value := .agg #[.int .i64 s.d, .int .i64 s.N, .int .i64 s.M, .slice s.A s.n s.c, .slice s.KA s.kn s.kc]
/-- what holds as the rounds of later begin -/
structure LtR (w : World) (g : LX) (s : Stp) (i : Nat) (ov : Value) (wr : World) : Prop where
  now : ∃ gi : LX, gi.At wr ∧ gi.base = g.base ∧ gi.n = g.n + i ∧ gi.ls = g.ls ++ s.ls.take i ∧ Blk wr w.heap.size #[.int .i64 gi.base, .slice gi.A gi.n gi.cap] 52
  stp : Blk wr (w.heap.size + 1) #[.int .i64 s.d, .int .i64 s.N, .int .i64 s.M, .slice s.A s.n s.c, .slice s.KA s.kn s.kc] 45
  out : ∃ out, wr.ownsRow (w.heap.size + 2) 52 2 ov i (rowL out) ∧ out.length = i ∧ (∀ z ∈ out, wr.ownsRow (w.heap.size + 2) 63 4 (.slice z.A z.n z.cap) z.n (rowX z.ls) ∧ z.ls.length = z.n ∧ ∀ y ∈ z.ls, y ∈ g.ls ∨ y ∈ s.ls) ∧ out.map LX.q = latA g.q s.ls i
  bel : Below w.heap.size w wr
theorem one_x (w : World) (x : XE) (ty : TypeId) (h : x.At w) : RdX (w.alloc (.cells #[.int .i64 x.i, .int .i64 x.t, .int .i64 x.k, .slice x.A x.d.length x.cap] ty)) (some ⟨w.heap.size, 0, none⟩) 1 [x] := by
  have hk := Blk.new w #[.int .i64 x.i, .int .i64 x.t, .int .i64 x.k, .slice x.A x.d.length x.cap] ty
  refine ⟨rfl, by unfold maxLen; omega, fun _ => ⟨_, _, rfl, fun i hi j hj => ?_⟩, fun y hy => ?_⟩
  · have hi0 : i = 0 := by simp at hi; exact hi
    subst hi0
    rw [show (0 : Nat) + 0 * 4 + j = j by omega]
    rcases j with _ | _ | _ | _ | j
    · exact hk.cell 0 _ rfl
    · exact hk.cell 1 _ rfl
    · exact hk.cell 2 _ rfl
    · exact hk.cell 3 _ rfl
    · omega
  · simp at hy
    subst hy
    exact h.below (alloc_below' _ _)
set_option maxRecDepth 100000 in
set_option maxHeartbeats 6400000 in
theorem later_app (g : LX) (s : Stp) (w : World) (hg : g.At w) (hs : s.At w) (hb : 0 ≤ g.base ∧ g.base ≤ 1099511627776) (hn : g.n + s.n ≤ 1000000) (hd : s.d = 0) (hok : ∀ x ∈ s.ls, okX x = true) (hseq : ∀ (i : Nat) (x : XE), s.ls[i]? = some x → x.i = g.base + (g.n : Int) + (i : Int) + 1) :
    Calls Tryz.prog 26 #[g.val, s.val] w (LatIs g s.ls (latA g.q s.ls s.n) w) := by
  have hb0 : Below w.heap.size w ((w.alloc (.cells #[.int .i64 g.base, .slice g.A g.n g.cap] 52)).alloc (.cells #[.int .i64 s.d, .int .i64 s.N, .int .i64 s.M, .slice s.A s.n s.c, .slice s.KA s.kn s.kc] 45)) := (alloc_below' w _).trans ((alloc_below' (w.alloc (.cells #[.int .i64 g.base, .slice g.A g.n g.cap] 52)) _).mono (alloc_below' w _).size)
  have hk1 := (Blk.new w #[.int .i64 g.base, .slice g.A g.n g.cap] 52).past (.cells #[.int .i64 s.d, .int .i64 s.N, .int .i64 s.M, .slice s.A s.n s.c, .slice s.KA s.kn s.kc] 45)
  have hk2 := Blk.new (w.alloc (.cells #[.int .i64 g.base, .slice g.A g.n g.cap] 52)) #[.int .i64 s.d, .int .i64 s.N, .int .i64 s.M, .slice s.A s.n s.c, .slice s.KA s.kn s.kc] 45
  rw [show (w.alloc (.cells #[.int .i64 g.base, .slice g.A g.n g.cap] 52)).heap.size = w.heap.size + 1 by simp] at hk2
  have HLR := Lib.hid (show LtR w g s 0 (.slice none 0 0) ((w.alloc (.cells #[.int .i64 g.base, .slice g.A g.n g.cap] 52)).alloc (.cells #[.int .i64 s.d, .int .i64 s.N, .int .i64 s.M, .slice s.A s.n s.c, .slice s.KA s.kn s.kc] 45)) from ⟨⟨g, hg.below hb0, rfl, rfl, by simp, hk1⟩, hk2, ⟨[], ⟨by simp [rowL], .inl ⟨rfl, rfl⟩⟩, rfl, by simp, by simp [latA]⟩, hb0⟩)
  have HS := Lib.hid hs
  have HG := Lib.hid hg
  have HOK := Lib.hid hok
  have HSEQ := Lib.hid hseq
  have HLS := Lib.hid hs.1.1
  have c0 := hk2.cell 0 _ rfl
  unfold Stp.val LX.val
  rw [hd] at c0 HLR
  obtain ⟨b0, b1⟩ := hb
  clear hb0 hk1 hk2 hg hs hok hseq
  go_enter Tryz.func26, Tryz.ntmps26
  go_wp2_with fail
  go_loopw [5, 6] (fun ov iv wr => ∃ i : Nat, i ≤ s.n ∧ iv = .int .i64 i ∧ LtR w g s i ov wr) (fun _ iv _ => s.n - (intOf iv).toNat)
  case atStart => exact ⟨0, Nat.zero_le _, rfl, HLR.out⟩
  case round =>
    obtain ⟨i, hi, rfl, hR⟩ := hrel
    obtain ⟨⟨gi, hga, hgb, hgn, hgl, hgk⟩, hst, ⟨out, ho1, ho2, ho3, ho4⟩, hbel⟩ := hR
    have HGA := Lib.hid hga
    have HGB := Lib.hid (And.intro hgb hgn)
    have HGL := Lib.hid hgl
    have HGK := Lib.hid hgk
    have HST := Lib.hid hst
    have HO := Lib.hid (And.intro ho1 (And.intro ho2 (And.intro ho3 ho4)))
    have HBE := Lib.hid hbel
    have e3 := hst.cell 3 (.slice s.A s.n s.c) rfl
    clear hga hgb hgn hgl hgk hst ho1 ho2 ho3 ho4 hbel
    by_cases hlt : i < s.n
    · have hil : i < s.ls.length := by have := HLS.out; omega
      obtain ⟨zb, zoff, hzA, q⟩ := HS.out.1.at4 HBE.out i hil
      have HZA := Lib.hid hzA
      rw [hzA] at e3
      clear hzA
      have q0 : wr.cell? ⟨zb, zoff + i * 4, none⟩ = some (.int .i64 s.ls[i].i) := q 0 _ (by omega) rfl
      have q1 := q 1 (.int .i64 s.ls[i].t) (by omega) rfl
      have q2 := q 2 (.int .i64 s.ls[i].k) (by omega) rfl
      have q3 := q 3 (.slice s.ls[i].A s.ls[i].d.length s.ls[i].cap) (by omega) rfl
      have HRI := Lib.hid (fun (W : World) => right_ok s.ls[i] W (HOK.out _ (List.getElem_mem hil)))
      have HIX := Lib.hid (HSEQ.out i s.ls[i] (List.getElem?_eq_getElem hil))
      have HXA := Lib.hid (HS.out.1.2.2.2 _ (List.getElem_mem hil))
      have HTK := Lib.hid (show s.ls.take (i + 1) = s.ls.take i ++ [s.ls[i]] by rw [List.take_add_one, List.getElem?_eq_getElem hil]; rfl)
      unfold XE.val at HRI
      generalize s.ls[i] = x at *
      have k0 : (0 : Int) ≤ (i : Int) := by omega
      have k1 : (i : Int) < (s.n : Int) := by omega
      clear q
      go_wp2_with fail
      refine (HRI.out _).mono ?_
      rintro e w2 ⟨rfl, hb2⟩
      have HB2 := Lib.hid hb2
      have HBW := Lib.hid (HBE.out.trans (hb2.mono HBE.out.size))
      have HGK2 := Lib.hid (HGK.out.below hb2)
      have HST2 := Lib.hid (HST.out.below hb2)
      have HGA2 := Lib.hid (HGA.out.below hb2)
      have g0 := HGK2.out.cell 0 (.int .i64 gi.base) rfl
      have g1 := HGK2.out.cell 1 (.slice gi.A gi.n gi.cap) rfl
      have s3 := HST2.out.cell 3 (.slice s.A s.n s.c) rfl
      rw [HZA.out] at s3
      have hx : x.i = gi.base + (gi.n : Int) + 1 := by have := HIX.out; have := HGB.out; omega
      have HX := Lib.hid hx
      have x0 := (hb2.cell (lt_of_cell q0)).trans q0
      rw [hx] at x0
      have x1 := (hb2.cell (lt_of_cell q1)).trans q1
      have x2 := (hb2.cell (lt_of_cell q2)).trans q2
      have x3 := (hb2.cell (lt_of_cell q3)).trans q3
      have HX1 := Lib.hid x1
      have HX2 := Lib.hid x2
      have HX3 := Lib.hid x3
      have HX0 := Lib.hid x0
      have HLA := Lib.hid (fun (W : World) => llast_any gi W (by have := HGB.out; omega) (by have := HGB.out; omega))
      unfold LX.val at HLA
      have z1 : IntKind.i64.wrap (gi.base + (gi.n : Int) + 1) = gi.base + (gi.n : Int) + 1 := IntWalk.i64_in _ (by have := HGB.out; omega)
      have z2 : ((gi.base + (gi.n : Int) + 1) != (gi.base + (gi.n : Int) + 1)) = false := by simp
      have HDW := Lib.hid ((Below.refl w2.heap.size w2).drew)
      clear c0 e3 q0 q1 q2 q3 x1 x2 x3 hb2 hx hd
      go_wp2_with fail
      go_region_held3 (fun w' => w'.cell? ⟨w.heap.size, 0, none⟩ = some (.int .i64 gi.base) ∧ w'.cell? ⟨w.heap.size, 1, none⟩ = some (.slice gi.A gi.n gi.cap) ∧ w'.cell? ⟨w.heap.size + 1, 3, none⟩ = some (.slice (some ⟨zb, zoff, none⟩) s.n s.c) ∧ w'.cell? ⟨zb, zoff + i * 4, none⟩ = some (.int .i64 (gi.base + (gi.n : Int) + 1))) (first | exact ⟨by assumption, by assumption, by assumption, by assumption⟩ | go_keep) ((first
        | (go_at_call 31; refine (HLA.out _).mono ?_; rintro e w3 ⟨rfl, hb3⟩; have HB3 := Lib.hid (HDW.out.trans hb3); have y0 := (HGK2.out.below HB3.out).cell 0 (.int .i64 gi.base) rfl; have y1 := (HGK2.out.below HB3.out).cell 1 (.slice gi.A gi.n gi.cap) rfl; have y3 := (HB3.out.cell (lt_of_cell s3)).trans s3; have yx := (HB3.out.cell (lt_of_cell HX0.out)).trans HX0.out; clear hb3)))
      all_goals
        have HB3W := Lib.hid (HBW.out.trans (HB3.out.mono HBW.out.size))
        have HCP := Lib.hid (copy_any gi w3 (HGA2.out.below HB3.out) (by have := HGB.out; omega))
        unfold LX.val CopyIs at HCP
        go_wp2_with fail
        refine HCP.out.mono ?_
        rintro e w4 ⟨v4, rfl, hr4, hb4⟩
        have HB4 := Lib.hid (HB3.out.trans (hb4.mono HB3.out.size))
        have HB4W := Lib.hid (HB3W.out.trans (hb4.mono HB3W.out.size))
        have HGK4 := Lib.hid (HGK2.out.below HB4.out)
        have hA4 : ∀ y ∈ gi.ls, y.At w4 := fun y hy => (HGA2.out.rd.2.2.2 y hy).below HB4.out
        obtain ⟨VA, vc, rfl, hrd4, hle4, hm4, hn4⟩ := row_rdX hr4 HGA.out.rd.1 hA4
        have HR4 := Lib.hid hr4
        have d0 := HGK4.out.cell 0 (.int .i64 gi.base) rfl
        have d1 := HGK4.out.cell 1 (.slice gi.A gi.n gi.cap) rfl
        have f0 := HGK4.out.free 0
        have f1 := HGK4.out.free 1
        clear hr4 hb4 hA4 hrd4 hle4 hm4 hn4
        go_wp2_with fail
        have HR4N := Lib.hid (row_ne HR4.out HGK4.out (by decide))
        have hk5 : Blk ((w4.setCell ⟨w.heap.size, 0, none⟩ (.int .i64 gi.base)).setCell ⟨w.heap.size, 1, none⟩ (.slice VA gi.n vc)) w.heap.size #[.int .i64 gi.base, .slice VA gi.n vc] 52 := (HGK4.out.set 0 (.int .i64 gi.base) (by simp)).set 1 (.slice VA gi.n vc) (by simp)
        have hb5 : Below w.heap.size w ((w4.setCell ⟨w.heap.size, 0, none⟩ (.int .i64 gi.base)).setCell ⟨w.heap.size, 1, none⟩ (.slice VA gi.n vc)) := (HB4W.out.setCell (Nat.le_refl _) _).setCell (Nat.le_refl _) _
        have hf5 : ∀ k, k ≠ w.heap.size → ((w4.setCell ⟨w.heap.size, 0, none⟩ (.int .i64 gi.base)).setCell ⟨w.heap.size, 1, none⟩ (.slice VA gi.n vc)).heap[k]? = w4.heap[k]? := fun k hk => (Below.heap_setCell _ _ _ _ hk).trans (Below.heap_setCell _ _ _ _ hk)
        have hz5 : ((w4.setCell ⟨w.heap.size, 0, none⟩ (.int .i64 gi.base)).setCell ⟨w.heap.size, 1, none⟩ (.slice VA gi.n vc)).heap.size = w4.heap.size := by simp
        obtain ⟨w5, hw5⟩ : ∃ w5, (w4.setCell ⟨w.heap.size, 0, none⟩ (.int .i64 gi.base)).setCell ⟨w.heap.size, 1, none⟩ (.slice VA gi.n vc) = w5 := ⟨_, rfl⟩
        rw [hw5] at hk5 hb5 hf5 hz5 ⊢
        have HK5 := Lib.hid hk5
        have HB5 := Lib.hid hb5
        have HF5 := Lib.hid hf5
        have HZ5 := Lib.hid hz5
        have HS5 := Lib.hid ((HST2.out.below HB4.out).of (hf5 (w.heap.size + 1) (by omega)))
        have HR5 := Lib.hid (show w5.ownsRow (w.heap.size + 2) 63 4 (.slice VA gi.n vc) gi.n (rowX gi.ls) from row_lower (row_of HR4.out (fun i hi => hf5 i (fun h => HR4N.out (by rw [hi, h])))) (by have := HST.out.lt; have := HB2.out.size; have := HB3.out.size; omega))
        have HXA5 := Lib.hid (HXA.out.below hb5)
        obtain ⟨zb', zoff', hzA', q⟩ := HS.out.1.at4 hb5 i hil
        rw [HZA.out] at hzA'
        cases hzA'
        have r3 := HS5.out.cell 3 (.slice s.A s.n s.c) rfl
        rw [HZA.out] at r3
        have hXL : s.ls[i] = x := by
          have h1 := HTK.out
          rw [List.take_add_one, List.getElem?_eq_getElem hil] at h1
          simpa using List.append_cancel_left h1
        rw [hXL] at q
        have p0 : w5.cell? ⟨zb, zoff + i * 4, none⟩ = some (.int .i64 x.i) := q 0 _ (by omega) rfl
        have p1 := q 1 (.int .i64 x.t) (by omega) rfl
        have p2 := q 2 (.int .i64 x.k) (by omega) rfl
        have p3 := q 3 (.slice x.A x.d.length x.cap) (by omega) rfl
        have g5 := HK5.out.cell 1 (.slice VA gi.n vc) rfl
        have HSZ := Lib.hid (show w.heap.size + 1 < w5.heap.size from HS5.out.lt)
        have a1 : ∀ ob, (w5.alloc ob).cell? ⟨w.heap.size, 1, none⟩ = some (.slice VA gi.n vc) := fun ob => (HK5.out.past ob).cell 1 _ rfl
        have HNE := Lib.hid (row_ne HR5.out HK5.out (by decide))
        have HNS := Lib.hid (row_ne HR5.out HS5.out (by decide))
        have HRA := Lib.hid (show ((w5.alloc (.cells #[.int .i64 x.i, .int .i64 x.t, .int .i64 x.k, .slice x.A x.d.length x.cap] 63)).drew).ownsRow (w.heap.size + 2) 63 4 (.slice VA gi.n vc) gi.n (rowX gi.ls) from row_of HR5.out (fun k hk => Below.heap_alloc w5 (.cells #[.int .i64 x.i, .int .i64 x.t, .int .i64 x.k, .slice x.A x.d.length x.cap] 63) k (row_lo HR5.out k hk).2))
        have HOX := Lib.hid (show RdX ((w5.alloc (.cells #[.int .i64 x.i, .int .i64 x.t, .int .i64 x.k, .slice x.A x.d.length x.cap] 63)).drew) (some ⟨w5.heap.size, 0, none⟩) 1 [x] from one_x w5 x 63 HXA5.out)
        have HLO := Lib.hid (show w.heap.size ≤ ((w5.alloc (.cells #[.int .i64 x.i, .int .i64 x.t, .int .i64 x.k, .slice x.A x.d.length x.cap] 63)).drew).heap.size ∧ w.heap.size + 1 < ((w5.alloc (.cells #[.int .i64 x.i, .int .i64 x.t, .int .i64 x.k, .slice x.A x.d.length x.cap] 63)).drew).heap.size from by
          have h1 := HSZ.out
          have h2 : ((w5.alloc (.cells #[.int .i64 x.i, .int .i64 x.t, .int .i64 x.k, .slice x.A x.d.length x.cap] 63)).drew).heap.size = w5.heap.size + 1 := by
            show (w5.alloc _).heap.size = _
            simp
          omega)
        have HGN := Lib.hid (show gi.n + 1 ≤ 2000000 by have := HGB.out; omega)
        clear q hXL hw5 hk5 hb5 hf5 hz5 g0 g1 s3 x0 y0 y1 y3 yx d0 d1 f0 f1
        go_region_law ((first
          | (refine step_append_rowX rfl _ _ rfl (w.heap.size + 2) _ gi.n (rowX gi.ls) rfl HRA.out (some ⟨w5.heap.size, 0, none⟩) 1 1 [x] rfl HOX.out (fun h => by cases h) (by exact HGN.out) (by exact HLO.out.2) ?_; intro v6 w6 hO6 hg6 _; obtain ⟨VB, vd, hvv, _⟩ := row_slice hO6; subst hvv; have HO6 := Lib.hid hO6; have HG6 := Lib.hid hg6; have hK6 := HK5.out.of ((hg6.block w.heap.size (by have := HLO.out; omega) (fun h => HNE.out h.symm)).trans (Below.heap_alloc w5 _ _ (by have := HSZ.out; omega))); have HK6 := Lib.hid hK6; have z6 := hK6.cell 1 _ rfl; have f6 := hK6.free 1; clear hO6 hg6 hK6)))
        all_goals
          have hne6 := row_ne HO6.out HK6.out (by decide)
          have hk7 : Blk (w6.setCell ⟨w.heap.size, 1, none⟩ (.slice VB (gi.n + 1) vd)) w.heap.size #[.int .i64 gi.base, .slice VB (gi.n + 1) vd] 52 := HK6.out.set 1 (.slice VB (gi.n + 1) vd) (by simp)
          have hr7 : (w6.setCell ⟨w.heap.size, 1, none⟩ (.slice VB (gi.n + 1) vd)).ownsRow (w.heap.size + 2) 63 4 (.slice VB (gi.n + 1) vd) (gi.n + 1) (rowX gi.ls ++ rowX [x]) := row_of HO6.out (fun k hk => Below.heap_setCell _ _ _ _ (fun h => hne6 (by rw [hk, h])))
          have hVA : ∀ k, k < w3.heap.size → some k ≠ (Value.slice VA gi.n vc).ownBlock := fun k hk h => by have := (row_lo HR4.out k h.symm).1; omega
          have hkp : ∀ k, k < wr.heap.size → k ≠ w.heap.size → (w6.setCell ⟨w.heap.size, 1, none⟩ (.slice VB (gi.n + 1) vd)).heap[k]? = wr.heap[k]? := fun k hk hn => by
            have s1 := HB2.out.size
            have s2 := HB3.out.size
            have s3 := HB4.out.size
            have s4 := HZ5.out
            have e1 := HB2.out.block k hk
            have e2 := HB4.out.block k (by omega)
            have e3 := HF5.out k hn
            have e4 := Below.heap_alloc w5 (.cells #[.int .i64 x.i, .int .i64 x.t, .int .i64 x.k, .slice x.A x.d.length x.cap] 63) k (by omega)
            have e5 := HG6.out.block k (by show k < (w5.alloc _).heap.size; simp; omega) (hVA k (by omega))
            have e6 := Below.heap_setCell w6 ⟨w.heap.size, 1, none⟩ (.slice VB (gi.n + 1) vd) k hn
            exact e6.trans (e5.trans (e4.trans (e3.trans (e2.trans e1))))
          have hb7 : Below w.heap.size w (w6.setCell ⟨w.heap.size, 1, none⟩ (.slice VB (gi.n + 1) vd)) := ((((HB5.out.alloc HB5.out.size _).drew).grown HG6.out (by exact HLO.out.1) (fun k hk => by have := (row_lo HR4.out k hk).1; have := HB3W.out.size; omega)).setCell (Nat.le_refl _) _)
          obtain ⟨w7, hw7⟩ : ∃ w7, w6.setCell ⟨w.heap.size, 1, none⟩ (.slice VB (gi.n + 1) vd) = w7 := ⟨_, rfl⟩
          rw [hw7] at hk7 hr7 hkp hb7 ⊢
          have HK7 := Lib.hid hk7
          have HR7 := Lib.hid hr7
          have HKP := Lib.hid hkp
          have HB7 := Lib.hid hb7
          have t0 := hk7.cell 0 (.int .i64 gi.base) rfl
          have t1 := hk7.cell 1 (.slice VB (gi.n + 1) vd) rfl
          clear hne6 hk7 hr7 hVA hkp hb7 hw7 z6 f6
          obtain ⟨g', hg'⟩ : ∃ g' : LX, g' = ⟨gi.base, VB, gi.n + 1, vd, gi.ls ++ [x]⟩ := ⟨_, rfl⟩
          have HG' := Lib.hid hg'
          have HO8 := Lib.hid (show (w7.alloc (.cells #[.int .i64 gi.base, .slice VB (gi.n + 1) vd] 52)).ownsRow (w.heap.size + 2) 52 2 u5 i (rowL out) from row_of HO.out.1 (fun k hk => by
            have h1 := row_lo HO.out.1 k hk
            have h2 := HKP.out k h1.2 (by omega)
            refine (Below.heap_alloc w7 _ k ?_).trans h2
            rcases Nat.lt_or_ge k w7.heap.size with h3 | h3
            · exact h3
            · rw [Array.getElem?_eq_none h3, Array.getElem?_eq_getElem h1.2] at h2; cases h2))
          have HC8 := Lib.hid (show ∀ (j : Nat) (u : Value), (rowL [g'])[j]? = some u → (w7.alloc (.cells #[.int .i64 gi.base, .slice VB (gi.n + 1) vd] 52)).cell? (Addr.add ⟨w7.heap.size, 0, none⟩ j) = some u from fun j u hu => by
            have hk8 := Blk.new w7 #[.int .i64 gi.base, .slice VB (gi.n + 1) vd] 52
            rw [add_atB, Nat.zero_add]
            rw [hg'] at hu
            rcases j with _ | _ | j
            · cases hu; exact hk8.cell 0 _ rfl
            · cases hu; exact hk8.cell 1 _ rfl
            · simp [rowL, LX.cells] at hu)
          have HI := Lib.hid (show i + 1 ≤ 2000000 by omega)
          have HL8 := Lib.hid (show w.heap.size + 2 ≤ (w7.alloc (.cells #[.int .i64 gi.base, .slice VB (gi.n + 1) vd] 52)).heap.size from by have := HK7.out.lt; simp; omega)
          clear hg'
          go_wp2_with (refine wpList_append_rowL rfl _ _ rfl (w.heap.size + 2) _ i (rowL out) rfl HO8.out ⟨w7.heap.size, 0, none⟩ 1 1 [g'] rfl rfl HC8.out (by exact HI.out) (by exact HL8.out) ?_)
          intro v9 w9 hO9 hg9 hat9
          have HO9 := Lib.hid hO9
          have HG9 := Lib.hid hg9
          clear hO9 hg9 hat9
          have HFIN := Lib.hid (show LtR w g s (i + 1) v9 w9 from by
            have hgn := HGB.out
            have hg' := HG'.out
            have hr8 : (w7.alloc (.cells #[.int .i64 gi.base, .slice VB (gi.n + 1) vd] 52)).ownsRow (w.heap.size + 2) 63 4 (.slice VB (gi.n + 1) vd) (gi.n + 1) (rowX gi.ls ++ rowX [x]) := row_of HR7.out (fun k hk => Below.heap_alloc w7 _ k (row_lo HR7.out k hk).2)
            have hn8 := rows_ne hr8 HO8.out (by decide)
            have hr9 : w9.ownsRow (w.heap.size + 2) 63 4 (.slice VB (gi.n + 1) vd) (gi.n + 1) (rowX gi.ls ++ rowX [x]) := row_of hr8 (fun k hk => HG9.out.block k (row_lo hr8 k hk).2 (fun h => hn8 k hk h.symm))
            rw [← rowX_append] at hr9
            have hb9 : Below w.heap.size w w9 := (HB7.out.alloc HB7.out.size _).grown HG9.out (by have := HL8.out; omega) (fun k hk => by have := (row_lo HO8.out k hk).1; omega)
            have hyw : ∀ y ∈ gi.ls ++ [x], y.At w := fun y hy => by
              rw [HGL.out] at hy
              simp only [List.mem_append, List.mem_singleton] at hy
              rcases hy with (hy | hy) | rfl
              · exact HG.out.rd.2.2.2 y hy
              · exact HS.out.1.2.2.2 y (List.mem_of_mem_take hy)
              · exact HXA.out
            have hmw : ∀ y ∈ gi.ls ++ [x], y ∈ g.ls ∨ y ∈ s.ls := fun y hy => by
              rw [HGL.out, List.append_assoc, ← HTK.out] at hy
              rcases List.mem_append.1 hy with hy | hy
              · exact .inl hy
              · exact .inr (List.mem_of_mem_take hy)
            have hlen : (gi.ls ++ [x]).length = gi.n + 1 := by rw [List.length_append, HGA.out.rd.1]; rfl
            obtain ⟨ZA, zc, hzv, zr, z4, z5, z6⟩ := row_rdX hr9 hlen (fun y hy => (hyw y hy).below hb9)
            cases hzv
            have hls : gi.ls ++ [x] = g.ls ++ s.ls.take (i + 1) := by rw [HGL.out, HTK.out, List.append_assoc]
            obtain ⟨o1, o2, o3, o4⟩ := HO.out
            have hsz7 : wr.heap.size ≤ w7.heap.size := by
              have s1 := HB2.out.size
              have s2 := HB4.out.size
              have s4 := HZ5.out
              have s5 := HR7.out
              rcases Nat.lt_or_ge w7.heap.size wr.heap.size with h3 | h3
              · have h4 := HKP.out w7.heap.size h3 (by have := HK7.out.lt; omega)
                rw [Array.getElem?_eq_none (Nat.le_refl _), Array.getElem?_eq_getElem h3] at h4
                cases h4
              · exact h3
            refine ⟨⟨g', ?_, ?_, ?_, ?_, ?_⟩, ?_, ⟨out ++ [g'], ?_, ?_, ?_, ?_⟩, hb9⟩
            · rw [hg']; exact ⟨zr, z4, z5, z6⟩
            · rw [hg']; exact hgn.1
            · rw [hg']; show gi.n + 1 = _; omega
            · rw [hg']; exact hls
            · rw [hg']
              exact (HK7.out.past _).of (HG9.out.block w.heap.size (by have := HL8.out; omega) (fun h => by have := (row_lo HO8.out _ h.symm).1; omega))
            · have h1 := HKP.out (w.heap.size + 1) (by have := HST.out.lt; omega) (by omega)
              have h2 := Below.heap_alloc w7 (.cells #[.int .i64 gi.base, .slice VB (gi.n + 1) vd] 52) (w.heap.size + 1) (by have := HST.out.lt; omega)
              exact HST.out.of ((HG9.out.block (w.heap.size + 1) (by have := HL8.out; omega) (fun h => by have := (row_lo HO8.out _ h.symm).1; omega)).trans (h2.trans h1))
            · rw [rowL_append]; exact HO9.out
            · rw [List.length_append, o2]; rfl
            · intro z hz
              rcases List.mem_append.1 hz with hz | hz
              · obtain ⟨q1, q2, q3⟩ := o3 z hz
                have hlo := row_lo q1
                have k8 : (w7.alloc (.cells #[.int .i64 gi.base, .slice VB (gi.n + 1) vd] 52)).ownsRow (w.heap.size + 2) 63 4 (.slice z.A z.n z.cap) z.n (rowX z.ls) := row_of q1 (fun k hk => (Below.heap_alloc w7 _ k (by have := (hlo k hk).2; omega)).trans (HKP.out k (hlo k hk).2 (by have := (hlo k hk).1; omega)))
                have kn := rows_ne k8 HO8.out (by decide)
                exact ⟨row_of k8 (fun k hk => HG9.out.block k (row_lo k8 k hk).2 (fun h => kn k hk h.symm)), q2, q3⟩
              · simp only [List.mem_singleton] at hz
                subst hz
                rw [hg']
                exact ⟨hr9, hlen, hmw⟩
            · rw [List.map_append, o4, latA_succ, hg']
              show _ ++ [(gi.base, (gi.ls ++ [x]).map XE.q)] = _ ++ [(g.base, g.ls.map XE.q ++ (s.ls.take (i + 1)).map XE.q)]
              rw [hls, hgn.1, List.map_append])
          go_wp2
          go_roundw
          case rel => exact ⟨i + 1, by omega, by go_num, HFIN.out⟩
          case measure => simp [intOf]; omega
    · obtain rfl : i = s.n := by omega
      go_wp2
      go_ret
      obtain ⟨q1, q2, q3, q4⟩ := HO.out
      refine ⟨_, out, rfl, by rw [q2]; exact row_lower q1 (by omega), fun z hz => ?_, q4, HBE.out⟩
      obtain ⟨z1, z2, z3⟩ := q3 z hz
      obtain ⟨ZA, zc, hzv, zr, z4, z5, z6⟩ := row_rdX z1 z2 (fun y hy => ((z3 y hy).elim (HG.out.rd.2.2.2 y) (HS.out.1.2.2.2 y)).below HBE.out)
      cases hzv
      refine ⟨⟨zr, z4, z5, z6⟩, fun _ a ha => .inl ?_, fun y hy => z3 y hy⟩
      have h1 := (row_lo z1 a.block (by rw [ha]; rfl)).1
      omega
end Go.Proofs.YtnppomiggajhnaaGreatDoor.Wl

namespace Go.Proofs.YtnppomiggajhnaaGreatDoor.Wl
open Go.RowKit Go.Proofs.YtnppomiggajhnaaGreatDoor.Fld
set_option linter.unusedVariables false

/-- an empty disk is opened, in memory -/
def OpnE (w0 w : World) (W g b lim R : Nat) (m : List Dk.Ent) (c : Ct) (t : Dk.St) : Prop := Dk.Sn w0 w g b m t ∧ w0.heap.size ≤ W
set_option maxRecDepth 100000 in
set_option maxHeartbeats 3200000 in
theorem awake_any (w : World) (hB : Base w) : Calls Tryz.prog 8 #[] w fun e w' => e = .returned (.bool true) ∧ Below w.heap.size w w' := by
  have HB := Lib.hid hB
  obtain ⟨k1, k2, k3, k4⟩ := cm_empty 1000 (by omega)
  have HK1 := Lib.hid k1
  have HK2 := Lib.hid k2
  have HK4 := Lib.hid k4
  have HNW := Lib.hid (Dk.new_sn 1000 w (by omega) (by omega))
  clear hB k1 k2 k3 k4
  go_enter Tryz.func8, Tryz.ntmps8
  go_wp2_with fail
  refine HNW.out.mono ?_
  rintro e w1 ⟨b, g, rfl, hsn⟩
  have HSN := Lib.hid hsn
  have HOP := Lib.hid (open_any (lo := w.heap.size) (lim := 100) hsn.1 (HB.out.below hsn.2.1) hsn.2.2 hsn.2.1.size HB.out.lt (by omega) (by omega) rfl (by simp [Dk.st0]))
  clear hsn HNW
  go_wp2_with fail
  refine HOP.out.mono ?_
  rintro e w2 ⟨hr, F', ⟨m, ve, vs, xs, hX, hF⟩, hfr, hsub⟩
  have HX := Lib.hid hX
  have HFR := Lib.hid (hfr.to_below HSN.out.2.1 HSN.out.2.2)
  have HFI := Lib.hid (first_any hX)
  have HNA := Lib.hid (Dk.names_any g b m _ w2 hX.im (by rw [HK4.out]; omega))
  have HML := Lib.hid (show m.length = 1 by rw [hX.im.len]; exact HK4.out)
  rw [HK2.out] at HFI
  rcases hr with ⟨hz, rfl⟩ | ⟨hz, rfl⟩
  rotate_left
  · exact absurd HK1.out hz
  clear hz hX hF hfr hsub HOP
  generalize w1.heap.size = W at *
  go_wp2_with fail
  refine HFI.out.mono ?_
  rintro e w3 ⟨rfl, rfl⟩
  go_wp2_with fail
  refine HNA.out.mono ?_
  rintro e w4 ⟨A, cap, rfl, hrd, hab, hbl⟩
  have HBL := Lib.hid (HFR.out.trans (hbl.mono HFR.out.size))
  have hml := HML.out
  rw [hml]
  clear hrd hab hbl
  go_wp2
  go_ret
  exact ⟨rfl, HBL.out⟩
end Go.Proofs.YtnppomiggajhnaaGreatDoor.Wl
