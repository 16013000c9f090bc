/-
  Several texts in one: Layer 6: log.get in the program: a copy of some of the entries. Conditions: the log lies in memory (its row, its entries' bytes). Layer 6: Get in the program. Conditions: the Wal and its disk lie in memory (WmX), or it is broken (WmB). The plain mathematics of layer 6: a log's files on a disk, the content they are read to, and the logs that a crash may leave. No condition but those that each theorem states. The plain mathematics of layer 6: what a crash, a record more, a sync and a new segment make of a log's files. Conditions: as each theorem states. The plain mathematics of layer 6: a log's files as a list: what append, sync and a new file make of it. Conditions: as each theorem states.
-/
import Derived.Test.YtgmpdifggaggdaaGreatDoorJWalCue
import Derived.Test.YtgmpdifggaggdaaGreatDoorJFieldCatch
import Derived.Lib.LazyBuf
namespace Go.Proofs.YtgmpdifggaggdaaGreatDoor.Wl
open Go.RowKit Go.Proofs.YtgmpdifggaggdaaGreatDoor.Fld
set_option linter.unusedVariables false

def ea0 : EA := ⟨⟨0, 0, 0, []⟩, none, 0⟩
def ens (xs : List EA) : List E := xs.map EA.e
theorem ens_len (xs : List EA) : (ens xs).length = xs.length := by simp [ens]
theorem ens_append (a b : List EA) : ens (a ++ b) = ens a ++ ens b := by simp [ens]
theorem ens_take (a : List EA) (k : Nat) : ens (a.take k) = (ens a).take k := by simp [ens, List.map_take]
theorem ens_drop (a : List EA) (k : Nat) : ens (a.drop k) = (ens a).drop k := by simp [ens, List.map_drop]
theorem rowE_drop (a : List EA) (k : Nat) : rowE (a.drop k) = (rowE a).drop (k * 4) := by
  rcases Nat.lt_or_ge a.length k with h | h
  · rw [List.drop_eq_nil_of_le (by omega), List.drop_eq_nil_of_le (by rw [rowE_len]; omega)]; rfl
  · have h1 : rowE a = rowE (a.take k) ++ rowE (a.drop k) := by rw [← rowE_append, List.take_append_drop]
    have h2 : (rowE (a.take k)).length = k * 4 := by rw [rowE_len, List.length_take, Nat.min_eq_left h]
    rw [h1, ← h2, List.drop_left]
theorem rowE_at (a : List EA) (k j : Nat) (h : k < a.length) (hj : j < 4) : (rowE a)[k * 4 + j]? = (a.getD k ea0).cells[j]? := by
  have h1 := rowE_drop a k
  rw [List.drop_eq_getElem_cons h] at h1
  have h2 : ((rowE a).drop (k * 4))[j]? = (rowE a)[k * 4 + j]? := by rw [List.getElem?_drop]
  rw [← h2, ← h1]
  unfold rowE
  have hl : a[k].cells.length = 4 := rfl
  rw [List.flatMap_cons, List.getElem?_append_left (by omega), List.getD_eq_getElem?_getD, List.getElem?_eq_getElem h]
  rfl
theorem rowE_one (a : List EA) : ∀ u ∈ rowE a, u.oneCell' = true := by
  intro u hu
  simp only [rowE, List.mem_flatMap] at hu
  obtain ⟨x, _, hx⟩ := hu
  simp [EA.cells] at hx
  rcases hx with rfl | rfl | rfl | rfl <;> rfl
def Dat (w : World) (xs : List EA) : Prop := ∀ x ∈ xs, Rd w x.A x.e.data.length x.e.data ∧ (x.A = none → x.cap = 0)
theorem Dat.take {w : World} {xs : List EA} (h : Dat w xs) (k : Nat) : Dat w (xs.take k) := fun x hx => h x (List.mem_of_mem_take hx)
theorem Dat.drop {w : World} {xs : List EA} (h : Dat w xs) (k : Nat) : Dat w (xs.drop k) := fun x hx => h x (List.mem_of_mem_drop hx)
theorem Dat.below {w w' : World} {xs : List EA} (h : Dat w xs) (hb : Below w.heap.size w w') : Dat w' xs := fun x hx => ⟨(h x hx).1.below hb, (h x hx).2⟩
structure RdE (w : World) (A : Option Addr) (n : Nat) (xs : List EA) : Prop where
  len : xs.length = n
  most : n ≤ maxLen
  at' : 0 < n → ∃ b off, A = some ⟨b, off, none⟩ ∧ ∀ j v, (rowE xs)[j]? = some v → w.cell? ⟨b, off + j, none⟩ = some v
  dat : Dat w xs
theorem RdE.below {w w' : World} {A : Option Addr} {n : Nat} {xs : List EA} (h : RdE w A n xs) (hb : Below w.heap.size w w') : RdE w' A n xs :=
  ⟨h.len, h.most, fun hn => by
    obtain ⟨b, off, hA, hc⟩ := h.at' hn
    exact ⟨b, off, hA, fun j v hj => (hb.cell (lt_of_cell (hc j v hj))).trans (hc j v hj)⟩, h.dat.below hb⟩
theorem row_nil (w : World) (lo : Nat) (ety : TypeId) (size : Nat) : w.ownsRow lo ety size (.slice none 0 0) 0 [] := ⟨by simp, .inl ⟨rfl, rfl⟩⟩
theorem row_cells {w : World} {lo n g cap : Nat} {ety : TypeId} {xs : List Value} (h : w.ownsRow lo ety 4 (.slice (some ⟨g, 0, none⟩) n cap) n xs) : ∀ j v, xs[j]? = some v → w.cell? ⟨g, j, none⟩ = some v ∧ w.frozen? ⟨g, j, none⟩ = false := by
  intro j v hj
  rcases h.2 with ⟨h, _⟩ | ⟨g', cap', cur, he, hg, hh, h4, h5, h6, h7⟩
  · cases h
  · injection he with e1 e2 e3
    injection e1 with e1
    injection e1 with e1
    subst e1 e3
    refine ⟨?_, frozen_of_row w g j cur _ hh⟩
    rw [cell_of_row w g j cur _ (0, 0) hh]
    rw [← h7, List.getElem?_take] at hj
    split at hj
    · rw [Array.getElem?_toList] at hj; exact hj
    · cases hj
theorem row_set {w : World} {lo n g cap : Nat} {ety : TypeId} {xs : List Value} (h : w.ownsRow lo ety 4 (.slice (some ⟨g, 0, none⟩) n cap) n xs) (j : Nat) (v : Value) : (w.setCell ⟨g, j, none⟩ v).ownsRow lo ety 4 (.slice (some ⟨g, 0, none⟩) n cap) n (xs.set j v) := by
  obtain ⟨hl, h⟩ := h
  rcases h with ⟨h, _⟩ | ⟨g', cap', cur, he, hg, hh, h4, h5, h6, h7⟩
  · cases h
  · injection he with e1 e2 e3
    injection e1 with e1
    injection e1 with e1
    subst e1 e3
    refine ⟨by rw [List.length_set]; exact hl, .inr ⟨g, cap, _, rfl, hg, heap_setCell_same w g j cur _ _ hh, h4, h5, by simpa using h6, ?_⟩⟩
    rw [Array.toList_setIfInBounds, List.take_set, h7]
def DatO (lo : Nat) (w : World) (xs : List EA) : Prop := ∀ x ∈ xs, DatAt lo w x
theorem DatO.of {lo : Nat} {w w' : World} {xs : List EA} (h : DatO lo w xs) (hb : ∀ x ∈ xs, ∀ i, (Value.slice x.A x.e.data.length x.cap).ownBlock = some i → w'.heap[i]? = w.heap[i]?) : DatO lo w' xs := fun x hx => ⟨(h x hx).1, row_of (h x hx).2 (hb x hx)⟩
theorem DatO.below {lo : Nat} {w w' : World} {xs : List EA} (h : DatO lo w xs) (hb : Below w.heap.size w w') : DatO lo w' xs := h.of fun x hx i hi => hb.block i (row_lo (h x hx).2 i hi).2
theorem DatO.append {lo : Nat} {w : World} {a b : List EA} (h : DatO lo w a) (h' : DatO lo w b) : DatO lo w (a ++ b) := fun x hx => (List.mem_append.1 hx).elim (h x) (h' x)
theorem DatO.nil (lo : Nat) (w : World) : DatO lo w [] := fun x hx => by simp at hx
theorem add_atB (b off j : Nat) : Addr.add (⟨b, off, none⟩ : Addr) j = ⟨b, off + j, none⟩ := by
  unfold Addr.add
  split
  · simp_all
  · rfl
theorem run_append_rowE (w : World) (ty : TypeId) (lo : Nat) (v : Value) (n : Nat) (xs : List Value) (hown : w.ownsRow lo 49 4 v n xs) (A : Option Addr) (m c : Nat) (ys : List EA) (hr : RdE w A m ys) (hA : A = none → c = 0) (hb : n + m ≤ 2000000) (hlo : lo ≤ w.heap.size) :
    ∃ v' w', (Builtin.append_ #[22, 22] ty #[v, .slice A m c]).run Tryz.prog w = .ok v' w' ∧ w'.ownsRow lo 49 4 v' (n + m) (xs ++ rowE ys) ∧ w.grownBy w' v.ownBlock ∧ (v'.ownBlock = v.ownBlock ∨ v'.ownBlock = some w.heap.size) := by
  obtain ⟨inf, i1, i2, i3, i4⟩ := entry_info
  cases A with
  | none =>
    have hm : m = 0 := by
      rcases Nat.eq_zero_or_pos m with h | h
      · exact h
      · obtain ⟨b, off, he, _⟩ := hr.at' h; cases he
    subst hm
    obtain rfl : ys = [] := List.eq_nil_of_length_eq_zero hr.len
    obtain rfl := hA rfl
    refine ⟨v, w, run_append_owned_none (P := Tryz.prog) (w := w) lo 22 ty 49 inf 4 Tryz.underlying22 i1 v n xs hown, ?_, ⟨rfl, rfl, rfl, Nat.le_refl _, fun _ _ _ => rfl⟩, .inl rfl⟩
    rw [show rowE [] = [] from rfl, List.append_nil]
    exact hown
  | some ad =>
    obtain ⟨v', w', hrun, hrow, hg, _, hat⟩ := run_append_own_at (P := Tryz.prog) w lo 22 ty 49 inf _ 4 48 Tryz.underlying22 i1 i2 i3 i4 rfl (by omega) v n xs hown ad m c (rowE ys) (by rw [rowE_len, hr.len]) (by
      intro j u hu
      have hj : j < (rowE ys).length := (List.getElem?_eq_some_iff.1 hu).1
      rw [rowE_len, hr.len] at hj
      obtain ⟨b, off, he, hc⟩ := hr.at' (by omega)
      cases he
      rw [add_atB]
      exact hc j u hu) (rowE_one ys) (by unfold maxLen; omega) (by omega) hlo
    exact ⟨v', w', hrun, hrow, hg, hat⟩
theorem wpList_append_rowE {w : World} {ops : Array Oper} {rest : List Oper} {o : Oper} {a : Act} {Q : Exit → Act → World → Prop} (hgd : o.guard = none) (s x : Operand)
    (ho : o.op = .call { callee := .builtin .append, args := #[s, x], argTypes := #[22, 22] })
    (lo : Nat) (v : Value) (n : Nat) (xs : List Value) (hs : a.eval s = v) (hown : w.ownsRow lo 49 4 v n xs)
    (A : Option Addr) (m c : Nat) (ys : List EA) (hx : a.eval x = .slice A m c) (hr : RdE w A m ys) (hA : A = none → c = 0) (hb : n + m ≤ 2000000) (hlo : lo ≤ w.heap.size)
    (h : ∀ v' w', w'.ownsRow lo 49 4 v' (n + m) (xs ++ rowE ys) → w.grownBy w' v.ownBlock → (v'.ownBlock = v.ownBlock ∨ v'.ownBlock = some w.heap.size) → wpList Tryz.prog ops Q rest (a.put o.dst v') w') : wpList Tryz.prog ops Q (o :: rest) a w := by
  refine wpList_plain hgd fun K hK => ?_
  obtain ⟨v', w', hrun, h1, h2, h3⟩ := run_append_rowE w o.type lo v n xs hown A m c ys hr hA hb hlo
  unfold Oper.wp execOp
  simp only [ho, resolve, invoke, builtin, Sem.run_bind, Sem.run_pure, Result.andThen_ok, List.map_toArray, List.map_cons, List.map_nil, hs, hx, hrun]
  exact hK _ _ (h v' w' h1 h2 h3)
theorem row_madeE (w : World) (lo : Nat) (hlo : lo ≤ w.heap.size) : (w.alloc (.cells #[] 49)).ownsRow lo 49 4 (.slice (some ⟨w.heap.size, 0, none⟩) 0 0) 0 [] :=
  ⟨by simp, .inr ⟨w.heap.size, 0, #[], rfl, hlo, heap_alloc_new w _, Nat.le_refl _, by unfold maxLen; omega, rfl, rfl⟩⟩
def ClE (w : World) (n : Nat) (xs : List EA) (e : Ending) (w' : World) : Prop := ∃ v, e = .returned v ∧ w'.ownsRow w.heap.size 49 4 v n (rowE xs) ∧ Below w.heap.size w w'
theorem cloneE_any (A : Option Addr) (n cap : Nat) (xs : List EA) (w : World) (hr : RdE w A n xs) (hA : A = none → cap = 0) (hn : n ≤ 1000000) : Calls Tryz.prog 59 #[.slice A n cap] w (ClE w n xs) := by
  have q := fun (w : World) (a : Option Addr) (l c : Nat) => run_eql_slice_nil (P := Tryz.prog) w 22 49 a l c Tryz.underlying22
  cases A with
  | none =>
    have hn0 : n = 0 := by
      rcases Nat.eq_zero_or_pos n with h0 | h0
      · exact h0
      · obtain ⟨b, off, he, _⟩ := hr.at' h0; cases he
    subst hn0
    obtain rfl : xs = [] := List.eq_nil_of_length_eq_zero hr.len
    obtain rfl := hA rfl
    clear hr hA
    go_enter Tryz.func59, Tryz.ntmps59
    go_wp2
    go_ret
    exact ⟨_, rfl, row_nil _ _ _ _, Below.refl _ _⟩
  | some a =>
    have HA := Lib.hid hA
    have HO := Lib.hid (row_madeE w w.heap.size (Nat.le_refl _))
    have HB := Lib.hid (alloc_below' w (.cells #[] 49))
    have HR1 := Lib.hid (hr.below HB.out)
    clear hr hA
    go_enter Tryz.func59, Tryz.ntmps59
    go_wp2_with (refine wpList_append_rowE rfl _ _ rfl w.heap.size _ 0 [] rfl HO.out (some a) n cap xs rfl HR1.out HA.out (by omega) HB.out.size ?_)
    intro v1 w1 hO1 hg1 _
    have HO2 := Lib.hid hO1
    have HG := Lib.hid hg1
    clear hO1 hg1
    go_wp2
    go_ret
    exact ⟨_, rfl, HO2.out, HB.out.grown HG.out HB.out.size (fun i hi => by cases hi; exact Nat.le_refl _)⟩

theorem rowE_set (ys : List EA) (x : EA) (r : List EA) (k : Nat) (hk : ys.length = k) (A : Option Addr) (c : Nat) : (rowE (ys ++ x :: r)).set (k * 4 + 3) (.slice A x.e.data.length c) = rowE (ys ++ [⟨x.e, A, c⟩] ++ r) := by
  subst hk
  rw [rowE_append, rowE_append, rowE_append, List.append_assoc, List.set_append_right _ _ (by rw [rowE_len]; omega), rowE_len, Nat.add_sub_cancel_left]
  rfl
/-- entries that were told, in new memory -/
def GetIs (w : World) (l : List E) (e : Ending) (w' : World) : Prop := ∃ v ys, e = .returned v ∧ ens ys = l ∧ w'.ownsRow w.heap.size 49 4 v ys.length (rowE ys) ∧ DatO w.heap.size w' ys ∧ Below w.heap.size w w'
theorem rowE_take4 (xs : List EA) (k : Nat) : rowE (xs.take k) = (rowE xs).take (k * 4) := rowE_take xs k
set_option maxRecDepth 100000 in
set_option maxHeartbeats 6400000 in
theorem get_any (B o : Nat) (cs : Array Value) (ty : TypeId) (base g k N q cap lo : Nat) (xs : List EA) (w : World) (hB : Blk w B cs ty) (h0 : cs[o]? = some (.int .i64 (base : Int))) (h1 : cs[o + 1]? = some (.slice (some ⟨g, 0, none⟩) (k + N) cap)) (hrow : w.ownsRow lo 49 4 (.slice (some ⟨g, 0, none⟩) (k + N) cap) (k + N) (rowE xs)) (hdat : ∀ x ∈ xs, DatAt lo w x) (hlen : xs.length = k + N) (hb : base + (k + N) ≤ 1099511627776) (hkN : k + N ≤ 1000000) (hdl : ∀ x ∈ xs, x.e.data.length ≤ 4096)
    (f m : Int) (hf : f = (base : Int) + 1 + k) (hN : 0 < N) (hm : 1 ≤ m) (hq : (q : Int) = min m (N : Int)) :
    Calls Tryz.prog 33 #[.pointer (some ⟨B, o, none⟩), .int .i64 f, .int .i64 m] w (GetIs w (((ens xs).drop k).take q)) := by
  have c0 := hB.cell _ _ h0
  have c1 := hB.cell _ _ h1
  have hcap : k + N ≤ cap := by
    rcases hrow.2 with ⟨h, _⟩ | ⟨g', cap', cur, he, _, _, h4, _⟩
    · cases h
    · cases he; exact h4
  have hqN : q ≤ N := by omega
  have hrd : RdE w (some ⟨g, k * 4, none⟩) q ((xs.drop k).take q) := by
    refine ⟨by rw [List.length_take, List.length_drop]; omega, by unfold maxLen; omega, fun hp => ⟨g, k * 4, rfl, fun j v hj => ?_⟩, fun x hx => ?_⟩
    · rw [rowE_take4, List.getElem?_take] at hj
      split at hj
      · rw [rowE_drop, List.getElem?_drop] at hj
        have := (row_cells hrow _ _ hj).1
        exact this
      · cases hj
    · have hs := (hdat x (List.mem_of_mem_drop (List.mem_of_mem_take hx))).sl
      exact ⟨hs.1, hs.2.2.2.1⟩
  have HR := Lib.hid hrd
  have ek : IntKind.i64.wrap (IntKind.i64.wrap (f - (base : Int)) - 1) = (k : Int) := by
    rw [wrap_in (f - (base : Int)) (by omega) (by omega), wrap_in _ (by omega) (by omega)]
    omega
  have HQ := Lib.hid hq
  have HL := Lib.hid (show ((xs.drop k).take q).length = q by rw [List.length_take, List.length_drop]; omega)
  have HE := Lib.hid (show ((ens xs).drop k).take q = ens ((xs.drop k).take q) by rw [ens_take, ens_drop])
  have HD := Lib.hid (show ∀ x ∈ (xs.drop k).take q, x.e.data.length ≤ 4096 from fun x hx => hdl x (List.mem_of_mem_drop (List.mem_of_mem_take hx)))
  have g0 : (0 : Int) ≤ (k : Int) := by omega
  have g1 : (k : Int) ≤ (k : Int) + (N : Int) := by omega
  have g2 : (k : Int) ≤ (cap : Int) := by omega
  have g3 : ¬ cap = k := by omega
  have g4 : (k : Int) + (N : Int) ≤ (cap : Int) := by omega
  have g5 : (0 : Int) ≤ (q : Int) := by omega
  have g6 : (q : Int) ≤ ((cap - k : Nat) : Int) := by omega
  have g7 : (q : Int) ≤ (cap : Int) - (k : Int) := by omega
  have hq9 : q ≤ 1000000 := by omega
  rw [HE.out]
  generalize (xs.drop k).take q = zs at *
  clear hB h0 h1 hrow hdat hlen hf hq hdl hrd hqN
  have HCL := Lib.hid (fun W' (hb : Below w.heap.size w W') => cloneE_any (some ⟨g, k * 4, none⟩) q (cap - k) zs W' (HR.out.below hb) (fun h => by cases h) hq9)
  go_enter Tryz.func33, Tryz.ntmps33
  go_wp2_with fail
  go_quiet (fail)
  go_wp2_with fail
  rw [show (min m (N : Int)).toNat = q by have := HQ.out; omega]
  refine (HCL.out _ (below_drewN' w nq)).mono ?_
  rintro e w1 ⟨v, rfl, hrow, hbel⟩
  obtain ⟨VA, vc, rfl, hform, hle, hcm, hnil⟩ := row_slice hrow
  unfold maxLen at hcm
  have HB1 := Lib.hid ((below_drewN' w nq).trans (hbel.mono (below_drewN' w nq).size))
  have HR1 := Lib.hid (show w1.ownsRow w.heap.size 49 4 (.slice VA q vc) q (rowE zs) from hrow)
  have HNIL := Lib.hid hnil
  have HF := Lib.hid hform
  clear hrow hbel hnil hform
  go_wp2_with fail
  go_loopw [30] (fun i wr => ∃ (j : Nat) (ys : List EA), j ≤ q ∧ i = .int .i64 j ∧ ys.length = j ∧ ens ys = (ens zs).take j ∧ wr.ownsRow w.heap.size 49 4 (.slice VA q vc) q (rowE (ys ++ zs.drop j)) ∧ DatO w.heap.size wr ys ∧ Below w.heap.size w wr) (fun i _ => q - (intOf i).toNat)
  case atStart => exact ⟨0, [], Nat.zero_le _, rfl, rfl, rfl, HR1.out, DatO.nil _ _, HB1.out⟩
  case round =>
    obtain ⟨j, ys, hk, rfl, hyl, hye, hrow, hdat, hbel⟩ := hrel
    have HYL := Lib.hid hyl
    have HYE := Lib.hid hye
    have HROW := Lib.hid hrow
    have HDAT := Lib.hid hdat
    have HBEL := Lib.hid hbel
    clear hyl hye hrow hdat hbel
    by_cases hlt : j < q
    · have hkx : j < zs.length := by have := HL.out; omega
      obtain ⟨gg, rfl⟩ : ∃ gg, VA = some ⟨gg, 0, none⟩ := by
        cases VA with
        | none => have := (HNIL.out rfl).2; omega
        | some a =>
          obtain ⟨h1, h2⟩ := HF.out a rfl
          obtain ⟨b, off, sp⟩ := a
          simp only at h1 h2
          subst h1 h2
          exact ⟨b, rfl⟩
      have HX := Lib.hid (show zs.drop j = zs.getD j ea0 :: zs.drop (j + 1) by
        rw [List.drop_eq_getElem_cons hkx, List.getD_eq_getElem?_getD, List.getElem?_eq_getElem hkx]; rfl)
      have HMEM := Lib.hid (show zs.getD j ea0 ∈ zs by rw [List.getD_eq_getElem?_getD, List.getElem?_eq_getElem hkx]; exact List.getElem_mem _)
      have HTK := Lib.hid (show (ens zs).take (j + 1) = (ens zs).take j ++ [(zs.getD j ea0).e] by
        rw [List.take_add_one, List.getElem?_eq_getElem (by rw [ens_len]; exact hkx), List.getD_eq_getElem?_getD, List.getElem?_eq_getElem hkx]; simp [ens])
      generalize zs.getD j ea0 = x at *
      obtain ⟨e, XA, xc⟩ := x
      have HRD := Lib.hid (HR.out.dat _ HMEM.out)
      have HLE := Lib.hid (HD.out _ HMEM.out)
      simp only at HRD HLE HTK
      have HROW2 := Lib.hid (show wr.ownsRow w.heap.size 49 4 (.slice (some ⟨gg, 0, none⟩) q vc) q (rowE (ys ++ ⟨e, XA, xc⟩ :: zs.drop (j + 1))) by rw [← HX.out]; exact HROW.out)
      have hcell : (rowE (ys ++ (⟨e, XA, xc⟩ : EA) :: zs.drop (j + 1)))[j * 4 + 3]? = some (.slice XA e.data.length xc) := by
        rw [rowE_at _ j 3 (by rw [List.length_append, HYL.out]; simp) (by omega), List.getD_eq_getElem?_getD, List.getElem?_append_right (by rw [HYL.out]; exact Nat.le_refl _), HYL.out]
        simp [EA.cells]
      obtain ⟨c3, f3⟩ := row_cells HROW2.out _ _ hcell
      have HCELL := Lib.hid hcell
      clear hcell
      have HCL := Lib.hid (clone_any XA e.data.length xc e.data wr (HRD.out.1.of_same (fun a c hc => HBEL.out.cell (lt_of_cell hc))) HRD.out.2 (by have := HLE.out; omega))
      have k0 : (0 : Int) ≤ (j : Int) := by omega
      have k1 : (j : Int) < (q : Int) := by omega
      obtain ⟨D, hD⟩ : ∃ D, e.data.length = D := ⟨_, rfl⟩
      have HDD := Lib.hid hD
      rw [hD] at c3 HCL
      clear hD
      go_wp2_with fail
      refine HCL.out.mono ?_
      rintro e2 w2 ⟨v2, rfl, hO⟩
      obtain ⟨A2, c2, rfl, hs2, _⟩ := hO.sl D HDD.out
      have HR2 := Lib.hid (row_of HROW2.out (fun i hi => hO.1.block i (row_lo HROW2.out i hi).2))
      have HD2 := Lib.hid (HDAT.out.below hO.1)
      have HN2 := Lib.hid (show DatO w.heap.size w2 [⟨e, A2, c2⟩] by
        intro x hx
        simp only [List.mem_singleton] at hx
        subst hx
        refine ⟨hO.2.1, ?_⟩
        simp only
        have := hO.2.2
        rw [HDD.out] at this ⊢
        exact row_lower this HBEL.out.size)
      have HB2 := Lib.hid (HBEL.out.trans (hO.1.mono HBEL.out.size))
      obtain ⟨c3', f3'⟩ := row_cells HR2.out _ _ HCELL.out
      clear hO hs2 c3 f3
      go_wp2
      go_roundw
      case rel =>
        have hset := row_set HR2.out (j * 4 + 3) (.slice A2 D c2)
        have hlo := row_lo HR2.out gg rfl
        have hne : ∀ x ∈ ys ++ [(⟨e, A2, c2⟩ : EA)], ∀ i, (Value.slice x.A x.e.data.length x.cap).ownBlock = some i → (w2.setCell ⟨gg, j * 4 + 3, none⟩ (.slice A2 D c2)).heap[i]? = w2.heap[i]? := fun x hx i hi =>
          Below.heap_setCell _ _ _ _ (fun h => rows_ne ((HD2.out.append HN2.out) x hx).2 HR2.out (by decide) i hi (by rw [h]; rfl))
        refine ⟨j + 1, ys ++ [⟨e, A2, c2⟩], by omega, by go_num, by rw [List.length_append, HYL.out]; rfl, by rw [ens_append, HYE.out, HTK.out]; rfl, ?_, (HD2.out.append HN2.out).of hne, HB2.out.setCell hlo.1 _⟩
        have := rowE_set ys ⟨e, XA, xc⟩ (zs.drop (j + 1)) j HYL.out A2 c2
        simp only at this
        rw [HDD.out] at this
        rw [← this]
        exact hset
      case measure => simp [intOf]; omega
    · obtain rfl : j = q := by omega
      go_wp2
      go_ret
      have hdr : zs.drop j = [] := List.drop_eq_nil_of_le (by rw [HL.out]; exact Nat.le_refl _)
      have hrw := HROW.out
      rw [hdr, List.append_nil] at hrw
      exact ⟨_, ys, rfl, by rw [HYE.out, ← HL.out, ← ens_len, List.take_length], by rw [HYL.out]; exact hrw, HDAT.out, HBEL.out⟩
end Go.Proofs.YtgmpdifggaggdaaGreatDoor.Wl

namespace Go.Proofs.YtgmpdifggaggdaaGreatDoor.Wl
open Go.RowKit Go.Proofs.YtgmpdifggaggdaaGreatDoor.Fld
set_option linter.unusedVariables false

def getL (l : Lg) (f m : Int) : List E := if f ≤ (l.base : Int) ∨ (l.last : Int) < f ∨ m < 1 then [] else (l.es.drop (f - l.base - 1).toNat).take m.toNat
theorem getL_no {l : Lg} {f m : Int} (h : f ≤ (l.base : Int) ∨ (l.last : Int) < f ∨ m < 1) : getL l f m = [] := by unfold getL; rw [if_pos h]
theorem GetIs.emp (w w' : World) (hb : Below w.heap.size w w') : GetIs w [] (.returned (.slice none 0 0)) w' := ⟨_, [], rfl, rfl, row_nil _ _ _ _, DatO.nil _ _, hb⟩
set_option maxRecDepth 100000 in
theorem wget_brk {lo W g b : Nat} {m : List Dk.Ent} {w : World} {t : Dk.St} (h : WmB lo W g b m w t) (f q : Int) : Calls Tryz.prog 11 #[.pointer (some ⟨W, 0, none⟩), .int .i64 f, .int .i64 q] w (GetIs w []) := by
  have c2 := h.blk.cell 2 (.bool true) rfl
  have HE := Lib.hid (GetIs.emp w w (Below.refl _ _))
  clear h
  go_enter Tryz.func11, Tryz.ntmps11
  go_wp2
  go_ret
  exact HE.out
set_option maxRecDepth 100000 in
set_option maxHeartbeats 3200000 in
theorem wget_any {lo W g b lim : Nat} {m : List Dk.Ent} {ve vs : Value} {xs : List EA} {w : World} {c : Ct} {t : Dk.St} (h : WmX lo W g b lim m ve vs xs w c t) (hes : c.lg.es.length ≤ 1000000) (f q : Int) : Calls Tryz.prog 11 #[.pointer (some ⟨W, 0, none⟩), .int .i64 f, .int .i64 q] w (GetIs w (getL c.lg f q)) := by
  have c2 := h.ct.blk.cell 2 (.bool false) rfl
  have HF := Lib.hid (first_any h)
  have HL := Lib.hid (lastW_any h)
  have HX := Lib.hid h
  have hlen : c.lg.es.length = xs.length := by rw [h.ct.es]; simp
  have hle : c.lg.base + c.lg.es.length ≤ 1099511627776 := by have := h.ct.ok.1.1; unfold Lg.last MI at this; exact this
  have hlast : c.lg.last = c.lg.base + c.lg.es.length := rfl
  have HE := Lib.hid (fun w' hb => GetIs.emp w w' hb)
  clear h
  by_cases h1 : f < (c.lg.base : Int) + 1
  · have d1 : decide (f < (c.lg.base : Int) + 1) = true := decide_eq_true h1
    have HN := Lib.hid (getL_no (l := c.lg) (f := f) (m := q) (.inl (by omega)))
    clear h1 hlen hle hlast
    go_enter Tryz.func11, Tryz.ntmps11
    go_wp2_with (go_at_call 12; refine HF.out.mono ?_; rintro e w' ⟨rfl, rfl⟩)
    go_ret
    rw [HN.out]
    exact HE.out _ (Below.refl _ _)
  have d1 : decide (f < (c.lg.base : Int) + 1) = false := decide_eq_false h1
  by_cases h2 : (c.lg.last : Int) < f
  · have d2 : decide ((c.lg.last : Int) < f) = true := decide_eq_true h2
    have HN := Lib.hid (getL_no (l := c.lg) (f := f) (m := q) (.inr (.inl h2)))
    clear h1 h2 hlen hle hlast
    go_enter Tryz.func11, Tryz.ntmps11
    go_wp2_with (first | (go_at_call 12; refine HF.out.mono ?_; rintro e w' ⟨rfl, rfl⟩) | (go_at_call 32; refine HL.out.mono ?_; rintro e w1 ⟨rfl, hst⟩; have HB := Lib.hid (still_below hst); clear hst))
    go_ret
    rw [HN.out]
    exact HE.out _ HB.out
  have d2 : decide ((c.lg.last : Int) < f) = false := decide_eq_false h2
  by_cases h3 : q < 1
  · have d3 : decide (q < 1) = true := decide_eq_true h3
    have HN := Lib.hid (getL_no (l := c.lg) (f := f) (m := q) (.inr (.inr h3)))
    clear h1 h2 h3 hlen hle hlast
    go_enter Tryz.func11, Tryz.ntmps11
    go_wp2_with (first | (go_at_call 12; refine HF.out.mono ?_; rintro e w' ⟨rfl, rfl⟩) | (go_at_call 32; refine HL.out.mono ?_; rintro e w1 ⟨rfl, hst⟩; have HB := Lib.hid (still_below hst); clear hst))
    go_ret
    rw [HN.out]
    exact HE.out _ HB.out
  have d3 : decide (q < 1) = false := decide_eq_false h3
  obtain ⟨k, hk⟩ : ∃ k : Nat, f = (c.lg.base : Int) + 1 + k := ⟨(f - c.lg.base - 1).toNat, by omega⟩
  obtain ⟨N, hN⟩ : ∃ N : Nat, xs.length = k + N := ⟨xs.length - k, by omega⟩
  obtain ⟨Q, hQ⟩ : ∃ Q : Nat, (Q : Int) = min q (N : Int) := ⟨(min q (N : Int)).toNat, by omega⟩
  have hN0 : 0 < N := by omega
  obtain ⟨gg, cap, hve⟩ : ∃ gg cap, ve = .slice (some ⟨gg, 0, none⟩) xs.length cap := by
    rcases HX.out.ct.rE.2 with ⟨_, h0⟩ | ⟨q, cp, cur, hv, _⟩
    · omega
    · exact ⟨q, cp, hv⟩
  have hl : getL c.lg f q = ((ens xs).drop k).take Q := by
    unfold getL
    rw [if_neg (by omega), HX.out.ct.es, show (f - (c.lg.base : Int) - 1).toNat = k by omega]
    show ((ens xs).drop k).take q.toNat = _
    apply List.ext_getElem?
    intro j
    rw [List.getElem?_take, List.getElem?_take]
    by_cases hj : j < Q
    · rw [if_pos (by omega), if_pos hj]
    · rw [if_neg hj]
      split
      · rw [List.getElem?_eq_none]
        rw [List.length_drop, ens_len]
        omega
      · rfl
  have HG := Lib.hid (fun W' (hb : Below w.heap.size w W') => by
    have hX := HX.out.below hb
    have hrow := hX.ct.rE
    rw [hve, hN] at hrow
    exact get_any W 3 (wcs g lim c ve vs) 61 c.lg.base gg k N Q cap lo xs W' hX.ct.blk rfl (by rw [hve, hN]; rfl) hrow hX.ct.dat hN (by omega) (by omega) (fun x hx => by
      have := hX.ct.ok.1.2 x.e (by rw [hX.ct.es]; exact List.mem_map_of_mem hx)
      exact this.2.2.2.2.1) f q hk hN0 (by omega) hQ)
  rw [hl]
  clear h1 h2 h3 hk hN hQ hve hl hlen hle hlast
  go_enter Tryz.func11, Tryz.ntmps11
  go_wp2_with (first | (go_at_call 12; refine HF.out.mono ?_; rintro e w' ⟨rfl, rfl⟩) | (go_at_call 32; refine HL.out.mono ?_; rintro e w1 ⟨rfl, hst⟩; have HB := Lib.hid (still_below hst); clear hst))
  refine (HG.out _ HB.out).mono ?_
  rintro e w2 ⟨v, ys, rfl, y1, y2, y3, y4⟩
  have H2 := Lib.hid (And.intro y1 (And.intro y2 (And.intro y3 y4)))
  clear y1 y2 y3 y4
  go_wp2_with fail
  go_ret
  obtain ⟨y1, y2, y3, y4⟩ := H2.out
  exact ⟨v, ys, rfl, y1, row_lower y2 HB.out.size, fun y hy => ⟨(y3 y hy).1, row_lower (y3 y hy).2 HB.out.size⟩, HB.out.trans (y4.mono HB.out.size)⟩
end Go.Proofs.YtgmpdifggaggdaaGreatDoor.Wl

namespace Go.Proofs.YtgmpdifggaggdaaGreatDoor.Wl
open Go.Proofs.YtgmpdifggaggdaaGreatDoor.Fld Go.Proofs.YtgmpdifggaggdaaGreatDoor.Rc
set_option linter.unusedVariables false

/-- a segment's file: its number, its records, how many of its bytes are synced -/
structure Fl where
  n : Nat
  rs : List (List Int)
  s : Nat
def Fl.fil (f : Fl) : Dk.Fil := (segN f.n, recs f.rs, f.s)
def Fl.seg (f : Fl) : Nat × List Int := (f.n, recs f.rs)
/-- files, one behind the other, all of whose records are taken -/
def walk (c : Ct) : List Fl → Option Ct
  | [] => some c
  | f :: r => if f.rs ≠ [] ∧ (scanR f.n true c f.rs).2 = true then walk (scanR f.n true c f.rs).1 r else none
theorem walk_app : ∀ (a b : List Fl) (c : Ct), walk c (a ++ b) = (walk c a).bind fun c' => walk c' b
  | [], b, c => rfl
  | f :: a, b, c => by
    rw [List.cons_append, walk, walk]
    split
    · exact walk_app a b _
    · rfl
theorem walk_snoc {a : List Fl} {f : Fl} {c c' : Ct} (h : walk c a = some c') (hn : f.rs ≠ []) (ho : (scanR f.n true c' f.rs).2 = true) : walk c (a ++ [f]) = some (scanR f.n true c' f.rs).1 := by
  rw [walk_app, h]
  show walk c' [f] = _
  rw [walk, if_pos ⟨hn, ho⟩, walk]
theorem scanS_walk : ∀ (a : List Fl) (c c' : Ct) (r : List (Nat × List Int)), walk c a = some c' → (∀ f ∈ a, Small f.rs) → scanS c (a.map Fl.seg ++ r) = scanS c' r
  | [], c, c', r, h, _ => by rw [walk] at h; cases h; rfl
  | f :: a, c, c', r, h, hs => by
    rw [walk] at h
    split at h
    · rename_i hc
      have h1 : recsOf (recs f.rs) = f.rs := recsOf_eq (Sc.all (hs f (by simp)))
      show scanS c ((f.n, recs f.rs) :: (a.map Fl.seg ++ r)) = _
      rw [scanS, h1]
      have h2 : goesOn (recs f.rs) f.rs (scanR f.n true c f.rs).2 = true := by
        unfold goesOn
        rw [hc.2]
        cases hq : f.rs with
        | nil => exact absurd hq hc.1
        | cons x y => simp
      rw [if_pos h2]
      exact scanS_walk a _ c' r h (fun g hg => hs g (by simp [hg]))
    · cases h
theorem scanS_one (c : Ct) (n : Nat) (zs : List Int) : scanS c [(n, zs)] = (scanR n true c (recsOf zs)).1 := by
  rw [scanS]
  split
  · rfl
  · rfl
/-- of records that were cut off those that are whole are told -/
theorem cut_recs (ls : List (List Int)) (hs : Small ls) (a : Nat) (ha : a ≤ (recs ls).length) : ∃ j, j ≤ ls.length ∧ (recs (ls.take j)).length ≤ a ∧ (j < ls.length → a < (recs (ls.take (j + 1))).length) ∧ recsOf ((recs ls).take a) = ls.take j := by
  have key : ∀ k, k ≤ ls.length → (recs (ls.take k)).length ≤ a ∨ ∃ j, j < k ∧ (recs (ls.take j)).length ≤ a ∧ a < (recs (ls.take (j + 1))).length := by
    intro k
    induction k with
    | zero => intro _; left; simp [recs]
    | succ k ih =>
      intro hk
      rcases ih (by omega) with h | ⟨j, h1, h2, h3⟩
      · rcases Nat.lt_or_ge a (recs (ls.take (k + 1))).length with h4 | h4
        · exact .inr ⟨k, by omega, h, h4⟩
        · exact .inl h4
      · exact .inr ⟨j, by omega, h2, h3⟩
  have fin : ∀ j, j ≤ ls.length → (recs (ls.take j)).length ≤ a → (j < ls.length → a < (recs (ls.take (j + 1))).length) → recsOf ((recs ls).take a) = ls.take j := by
    intro j hj h1 h2
    apply recsOf_eq
    have e : recs ls = recs (ls.take j) ++ recs (ls.drop j) := recs_split ls j
    rw [e, List.take_append, List.take_of_length_le h1]
    refine Sc.of (small_take hs j) ?_
    rcases Nat.lt_or_ge j ls.length with h3 | h3
    · have h4 := h2 h3
      rw [Rc.recs_take ls j h3, List.length_append] at h4
      rw [Rc.recs_drop ls j h3, List.take_append_of_le_length (by omega)]
      refine first_cut _ _ ?_ (by omega)
      rw [List.getD_eq_getElem?_getD, List.getElem?_eq_getElem h3]
      exact hs _ (List.getElem_mem h3)
    · rw [List.drop_of_length_le h3, recs, List.take_nil]
      exact first_none (fun h => by have := h.1; simp at this)
  rcases key ls.length (Nat.le_refl _) with h | ⟨j, h1, h2, h3⟩
  · exact ⟨ls.length, Nat.le_refl _, h, fun h' => absurd h' (Nat.lt_irrefl _), fin _ (Nat.le_refl _) h (fun h' => absurd h' (Nat.lt_irrefl _))⟩
  · exact ⟨j, by omega, h2, fun _ => h3, fin j (by omega) h2 (fun _ => h3)⟩
/-- a log's files: all but the last one are whole and synced -/
structure Dsk (Fs : List Fl) (f : Fl) (c0 : Ct) (fs : List Dk.Fil) : Prop where
  fs : fs = (Fs ++ [f]).map Fl.fil
  w0 : walk ct0 Fs = some c0
  ok : (scanR f.n true c0 f.rs).2 = true
  ne : f.rs ≠ []
  sync : ∀ g ∈ Fs, g.s = (recs g.rs).length
  small : ∀ g ∈ Fs ++ [f], Small g.rs
  num : ∀ g ∈ Fs ++ [f], 1 ≤ g.n ∧ g.n ≤ 99999999
  up : (Fs ++ [f]).Pairwise fun a b => a.n < b.n
  s : f.s ≤ (recs f.rs).length
/-- the content that the files are read to -/
def ctOf (f : Fl) (c0 : Ct) : Ct := (scanR f.n true c0 f.rs).1
/-- the logs that a crash may leave -/
def Poss (f : Fl) (c0 : Ct) (g : Lg) : Prop := ∃ j, j ≤ f.rs.length ∧ (j < f.rs.length → f.s < (recs (f.rs.take (j + 1))).length) ∧ g = (scanR f.n true c0 (f.rs.take j)).1.lg
theorem Poss.now (f : Fl) (c0 : Ct) : Poss f c0 (ctOf f c0).lg := ⟨f.rs.length, Nat.le_refl _, fun h => absurd h (Nat.lt_irrefl _), by rw [List.take_length]; rfl⟩
theorem segsOf_fil : ∀ (l : List Fl), (∀ g ∈ l, 1 ≤ g.n ∧ g.n ≤ 99999999) → segsOf (l.map Fl.fil) = l.map Fl.seg
  | [], _ => rfl
  | f :: l, h => by
    have h1 := h f (by simp)
    have h2 : numOf (segN f.n) = f.n := numOf_segN f.n h1.2
    show List.filterMap _ (Fl.fil f :: l.map Fl.fil) = _
    rw [List.filterMap_cons]
    rw [if_pos (show 0 < numOf f.fil.1 by rw [show f.fil.1 = segN f.n from rfl, h2]; omega)]
    show (numOf (segN f.n), recs f.rs) :: segsOf (l.map Fl.fil) = _
    rw [h2]
    rw [segsOf_fil l (fun g hg => h g (by simp [hg]))]
    rfl
end Go.Proofs.YtgmpdifggaggdaaGreatDoor.Wl

namespace Go.Proofs.YtgmpdifggaggdaaGreatDoor.Wl
open Go.Proofs.YtgmpdifggaggdaaGreatDoor.Fld Go.Proofs.YtgmpdifggaggdaaGreatDoor.Rc
set_option linter.unusedVariables false

/-! ### a crash -/
theorem crash_full (k : Int) (g : Fl) (h : g.s = (recs g.rs).length) : Dk.crash1 k g.fil = g.fil := by
  unfold Dk.crash1 Dk.stays Fl.fil
  simp only [h, Nat.sub_self]
  have : (min (max k 0) ((0 : Nat) : Int)).toNat = 0 := by omega
  rw [this, Nat.add_zero, List.take_length]
theorem crash_last (k : Int) (f : Fl) (h : f.s ≤ (recs f.rs).length) : ∃ E, f.s ≤ E ∧ E ≤ (recs f.rs).length ∧ Dk.crash1 k f.fil = (segN f.n, (recs f.rs).take E, E) := by
  refine ⟨Dk.stays k f.fil, ?_, ?_, rfl⟩
  · unfold Dk.stays Fl.fil; simp only; omega
  · unfold Dk.stays Fl.fil; simp only; omega
theorem mapIdx_id {α : Type} (l : List α) (h : Nat → α → α) (hh : ∀ i a, a ∈ l → h i a = a) : l.mapIdx h = l := by
  apply List.ext_getElem
  · simp
  · intro i h1 h2
    rw [List.getElem_mapIdx]
    exact hh i _ (List.getElem_mem _)
theorem crash_fs {Fs : List Fl} {f : Fl} {c0 : Ct} {fs : List Dk.Fil} (h : Dsk Fs f c0 fs) (ks : List Int) : ∃ E, f.s ≤ E ∧ E ≤ (recs f.rs).length ∧ Dk.crashTo fs.length ks fs = Fs.map Fl.fil ++ [(segN f.n, (recs f.rs).take E, E)] := by
  obtain ⟨E, h1, h2, h3⟩ := crash_last (ks.getD (0 + (Fs.map Fl.fil).length) 0) f h.s
  refine ⟨E, h1, h2, ?_⟩
  rw [h.fs]
  unfold Dk.crashTo
  rw [List.map_append, List.mapIdx_append]
  congr 1
  · apply mapIdx_id
    intro i a ha
    obtain ⟨g, hg, rfl⟩ := List.mem_map.1 ha
    split
    · exact crash_full _ g (h.sync g hg)
    · rfl
  · show [if 0 + (Fs.map Fl.fil).length < ((Fs.map Fl.fil) ++ ([f].map Fl.fil)).length then Dk.crash1 (ks.getD (0 + (Fs.map Fl.fil).length) 0) f.fil else f.fil] = _
    rw [if_pos (by simp), h3]
theorem segs_crash {Fs : List Fl} {f : Fl} {c0 : Ct} {fs : List Dk.Fil} (h : Dsk Fs f c0 fs) (E : Nat) : segsOf (Fs.map Fl.fil ++ [(segN f.n, (recs f.rs).take E, E)]) = Fs.map Fl.seg ++ [(f.n, (recs f.rs).take E)] := by
  have hn := h.num f (by simp)
  unfold segsOf
  rw [List.filterMap_append]
  congr 1
  · exact segsOf_fil Fs (fun g hg => h.num g (by simp [hg]))
  · have h2 : numOf (segN f.n) = f.n := numOf_segN f.n hn.2
    rw [List.filterMap_cons]
    rw [if_pos (show 0 < numOf ((segN f.n, (recs f.rs).take E, E) : Dk.Fil).1 by show 0 < numOf (segN f.n); rw [h2]; omega)]
    show [(numOf (segN f.n), _)] = _
    rw [h2]
/-- behind a crash one of the logs is read -/
theorem crash_poss {Fs : List Fl} {f : Fl} {c0 : Ct} {fs : List Dk.Fil} (h : Dsk Fs f c0 fs) (ks : List Int) : Poss f c0 (scanD (Dk.crashTo fs.length ks fs)).lg := by
  obtain ⟨E, h1, h2, h3⟩ := crash_fs h ks
  obtain ⟨j, j1, j2, j3, j4⟩ := cut_recs f.rs (h.small f (by simp)) E h2
  refine ⟨j, j1, fun hj => by have := j3 hj; omega, ?_⟩
  unfold scanD
  rw [h3, segs_crash h, scanS_walk Fs ct0 c0 _ h.w0 (fun g hg => h.small g (by simp [hg])), scanS_one, j4]

/-! ### records, one more -/
theorem scanR_app (n : Nat) (b : List Int) : ∀ (rs : List (List Int)) (first : Bool) (c : Ct), (scanR n first c rs).2 = true → rs ≠ [] → scanR n first c (rs ++ [b]) = scanR n false (scanR n first c rs).1 [b]
  | [], _, _, _, h => absurd rfl h
  | x :: r, first, c, h, _ => by
    rw [List.cons_append]
    cases hq : acc n first c x with
    | none => rw [scanR_none hq] at h; cases h
    | some c1 =>
      rw [scanR_some hq] at h
      rw [scanR_some hq, scanR_some hq]
      cases r with
      | nil => rfl
      | cons y r => exact scanR_app n b (y :: r) false c1 h (by simp)
theorem scanR_one {n : Nat} {c c' : Ct} {b : List Int} (h : acc n false c b = some c') : scanR n false c [b] = (c', true) := by rw [scanR_some h, scanR]
theorem scanR_take (n : Nat) : ∀ (rs : List (List Int)) (first : Bool) (c : Ct) (j : Nat), (scanR n first c rs).2 = true → (scanR n first c (rs.take j)).2 = true
  | [], _, _, _, _ => by simp [scanR]
  | x :: r, first, c, 0, _ => rfl
  | x :: r, first, c, j + 1, h => by
    cases hq : acc n first c x with
    | none => rw [scanR_none hq] at h; cases h
    | some c1 =>
      rw [scanR_some hq] at h
      rw [List.take_succ_cons, scanR_some hq]
      exact scanR_take n r false c1 j h
theorem poss_write {f : Fl} {c0 c' : Ct} {b : List Int} (ok : (scanR f.n true c0 f.rs).2 = true) (ne : f.rs ≠ []) (ha : acc f.n false (ctOf f c0) b = some c') :
    ctOf ⟨f.n, f.rs ++ [b], f.s⟩ c0 = c' ∧ (scanR f.n true c0 (f.rs ++ [b])).2 = true ∧ ∀ g, Poss ⟨f.n, f.rs ++ [b], f.s⟩ c0 g → Poss f c0 g ∨ g = c'.lg := by
  have h1 : scanR f.n true c0 (f.rs ++ [b]) = (c', true) := by rw [scanR_app f.n b f.rs true c0 ok ne]; exact scanR_one ha
  refine ⟨by unfold ctOf; simp only; rw [h1], by rw [h1], ?_⟩
  rintro g ⟨j, j1, j2, rfl⟩
  simp only at j1 j2 ⊢
  rw [List.length_append, List.length_singleton] at j1 j2
  rcases Nat.lt_or_ge f.rs.length j with h | h
  · right
    have : j = f.rs.length + 1 := by omega
    subst this
    rw [List.take_of_length_le (by simp), h1]
  · left
    refine ⟨j, h, fun hj => ?_, by rw [List.take_append_of_le_length h]⟩
    have := j2 (by omega)
    rw [List.take_append_of_le_length (by omega)] at this
    exact this
theorem poss_sync {f : Fl} {c0 : Ct} : ∀ g, Poss ⟨f.n, f.rs, (recs f.rs).length⟩ c0 g → g = (ctOf f c0).lg := by
  rintro g ⟨j, j1, j2, rfl⟩
  simp only at j1 j2 ⊢
  rcases Nat.lt_or_ge j f.rs.length with h | h
  · have h1 := j2 h
    have h2 : (recs f.rs).length = (recs (f.rs.take (j + 1))).length + (recs (f.rs.drop (j + 1))).length := by rw [← List.length_append, ← recs_split]
    omega
  · rw [List.take_of_length_le h]
    rfl
theorem poss_new {n : Nat} {c c' : Ct} {b : List Int} (ha : acc n true c b = some c') (hl : c'.lg = c.lg) : ∀ g, Poss ⟨n, [b], 0⟩ c g → g = c.lg := by
  rintro g ⟨j, j1, j2, rfl⟩
  simp only [List.length_singleton] at j1
  rcases j with _ | j
  · rfl
  · simp only
    rw [List.take_of_length_le (by simp), scanR_some ha, scanR]
    exact hl
end Go.Proofs.YtgmpdifggaggdaaGreatDoor.Wl

namespace Go.Proofs.YtgmpdifggaggdaaGreatDoor.Wl
open Go.Proofs.YtgmpdifggaggdaaGreatDoor.Fld Go.Proofs.YtgmpdifggaggdaaGreatDoor.Rc
set_option linter.unusedVariables false

theorem Dsk.upf {Fs : List Fl} {f : Fl} {c0 : Ct} {fs : List Dk.Fil} (h : Dsk Fs f c0 fs) : Dk.Up Prod.fst ((Fs ++ [f]).map Fl.fil) := by
  unfold Dk.Up
  rw [List.pairwise_map]
  exact h.up.imp_of_mem fun {a b} ha hb hab => segN_before hab (h.num b hb).2
theorem Dsk.get {Fs : List Fl} {f : Fl} {c0 : Ct} {fs : List Dk.Fil} (h : Dsk Fs f c0 fs) : Dk.fget (segN f.n) fs = some f.fil := by
  rw [h.fs]
  have := Dk.get_mem h.upf (e := f.fil) (by simp)
  exact this
theorem Dsk.put {Fs : List Fl} {f : Fl} {c0 : Ct} {fs : List Dk.Fil} (h : Dsk Fs f c0 fs) (zs : List Int) (s : Nat) : Dk.fput (segN f.n, zs, s) fs = Fs.map Fl.fil ++ [(segN f.n, zs, s)] := by
  rw [h.fs]
  have hu := h.upf
  have hl : ((Fs ++ [f]).map Fl.fil).length = Fs.length + 1 := by simp
  have := Dk.put_at hu (segN f.n, zs, s) Fs.length (by omega) (by
    simp [Fl.fil])
  unfold Dk.fput
  rw [this, List.map_append, List.set_append_right _ _ (by simp)]
  simp
theorem ins_end (e : Dk.Fil) : ∀ (l : List Dk.Fil), (∀ y ∈ l, bytesBefore e.1 y.1 = false) → Dk.ins Prod.fst e l = l ++ [e]
  | [], _ => rfl
  | y :: l, h => by
    unfold Dk.ins
    rw [if_neg (by rw [h y (by simp)]; simp), ins_end e l (fun z hz => h z (by simp [hz]))]
    rfl
theorem Dsk.fresh {Fs : List Fl} {f : Fl} {c0 : Ct} {fs : List Dk.Fil} (h : Dsk Fs f c0 fs) {n : Nat} (hn : f.n < n) (hn2 : n ≤ 99999999) : Dk.fget (segN n) fs = none ∧ ∀ zs s, Dk.fput (segN n, zs, s) fs = fs ++ [(segN n, zs, s)] := by
  have hb : ∀ y ∈ fs, bytesBefore y.1 (segN n) = true := by
    intro y hy
    rw [h.fs] at hy
    obtain ⟨g, hg, rfl⟩ := List.mem_map.1 hy
    refine segN_before ?_ hn2
    rcases List.mem_append.1 hg with h1 | h1
    · have := List.pairwise_append.1 h.up
      have h2 := this.2.2 g h1 f (by simp)
      omega
    · simp at h1; subst h1; exact hn
  have hne : ∀ y ∈ fs, y.1 ≠ segN n := fun y hy => Dk.before_ne (hb y hy)
  have hg : Dk.fget (segN n) fs = none := by
    cases hq : Dk.fget (segN n) fs with
    | none => rfl
    | some e =>
      obtain ⟨h1, h2⟩ := Dk.get_some hq
      exact absurd h2 (hne e h1)
  refine ⟨hg, fun zs s => ?_⟩
  unfold Dk.fput Dk.put
  rw [show Dk.del Prod.fst (segN n) fs = fs from Dk.del_none hg]
  exact ins_end _ _ fun y hy => Dk.before_asym (hb y hy)
/-- a record more behind the last file -/
theorem Dsk.write {Fs : List Fl} {f : Fl} {c0 c' : Ct} {fs : List Dk.Fil} (h : Dsk Fs f c0 fs) {b : List Int} (hb : b.length ≤ 65536) (ha : acc f.n false (ctOf f c0) b = some c') : Dsk Fs ⟨f.n, f.rs ++ [b], f.s⟩ c0 (Dk.appFs (segN f.n) (recd b) fs) := by
  have hp := poss_write h.ok h.ne ha
  refine ⟨?_, h.w0, hp.2.1, by simp, h.sync, ?_, ?_, ?_, ?_⟩
  · unfold Dk.appFs
    rw [h.get]
    simp only
    have := h.put (recs f.rs ++ recd b) f.s
    rw [show Dk.fput (segN f.n, f.fil.2.1 ++ recd b, f.fil.2.2) fs = Dk.fput (segN f.n, recs f.rs ++ recd b, f.s) fs from rfl, this, List.map_append]
    show _ = Fs.map Fl.fil ++ [(segN f.n, recs (f.rs ++ [b]), f.s)]
    rw [recs_snoc]
  · intro g hg
    rcases List.mem_append.1 hg with h1 | h1
    · exact h.small g (by simp [h1])
    · simp at h1; subst h1; exact small_snoc (h.small f (by simp)) hb
  · intro g hg
    rcases List.mem_append.1 hg with h1 | h1
    · exact h.num g (by simp [h1])
    · simp at h1; subst h1; exact h.num f (by simp)
  · have := List.pairwise_append.1 h.up
    refine List.pairwise_append.2 ⟨this.1, by simp, fun a ha b hb => ?_⟩
    simp at hb; subst hb
    exact this.2.2 a ha f (by simp)
  · show f.s ≤ (recs (f.rs ++ [b])).length
    have := h.s
    rw [recs_snoc, List.length_append]
    omega
/-- the last file is synced -/
theorem Dsk.synced {Fs : List Fl} {f : Fl} {c0 : Ct} {fs : List Dk.Fil} (h : Dsk Fs f c0 fs) : Dsk Fs ⟨f.n, f.rs, (recs f.rs).length⟩ c0 (Dk.fput (segN f.n, recs f.rs, (recs f.rs).length) fs) := by
  refine ⟨?_, h.w0, h.ok, h.ne, h.sync, ?_, ?_, ?_, Nat.le_refl _⟩
  · rw [h.put, List.map_append]; rfl
  · intro g hg
    rcases List.mem_append.1 hg with h1 | h1
    · exact h.small g (by simp [h1])
    · simp at h1; subst h1; exact h.small f (by simp)
  · intro g hg
    rcases List.mem_append.1 hg with h1 | h1
    · exact h.num g (by simp [h1])
    · simp at h1; subst h1; exact h.num f (by simp)
  · have := List.pairwise_append.1 h.up
    refine List.pairwise_append.2 ⟨this.1, by simp, fun a ha b hb => ?_⟩
    simp at hb; subst hb
    exact this.2.2 a ha f (by simp)
/-- a segment more behind a file that is synced -/
theorem Dsk.more {Fs : List Fl} {f : Fl} {c0 c' : Ct} {fs : List Dk.Fil} (h : Dsk Fs f c0 fs) (hs : f.s = (recs f.rs).length) {n : Nat} (hn : f.n < n) (hn2 : n ≤ 99999999) {b : List Int} (hb : b.length ≤ 65536) (ha : acc n true (ctOf f c0) b = some c') : Dsk (Fs ++ [f]) ⟨n, [b], 0⟩ (ctOf f c0) (Dk.appFs (segN n) (recd b) fs) := by
  obtain ⟨h1, h2⟩ := h.fresh hn hn2
  refine ⟨?_, walk_snoc h.w0 h.ne h.ok, ?_, by simp, ?_, ?_, ?_, ?_, Nat.zero_le _⟩
  · unfold Dk.appFs
    rw [h1]
    simp only
    rw [h2, h.fs, List.map_append (l₁ := Fs ++ [f])]
    show _ = _ ++ [(segN n, recs [b], 0)]
    rw [recs, recs, List.append_nil]
  · simp only
    rw [scanR_some ha, scanR]
  · intro g hg
    rcases List.mem_append.1 hg with h3 | h3
    · exact h.sync g h3
    · simp at h3; subst h3; exact hs
  · intro g hg
    rcases List.mem_append.1 hg with h3 | h3
    · exact h.small g h3
    · simp at h3; subst h3; intro x hx; simp at hx; subst hx; exact hb
  · intro g hg
    rcases List.mem_append.1 hg with h3 | h3
    · exact h.num g h3
    · simp at h3; subst h3; exact ⟨by simp only; omega, hn2⟩
  · refine List.pairwise_append.2 ⟨h.up, by simp, fun a ha b hb => ?_⟩
    simp at hb; subst hb
    show a.n < n
    rcases List.mem_append.1 ha with h3 | h3
    · have := List.pairwise_append.1 h.up
      have h4 := this.2.2 a h3 f (by simp)
      omega
    · simp at h3; subst h3; exact hn
/-! ### what the disk's calls answer -/
theorem app_alt (n : Nat) (b : List Int) (t : Dk.St) : ((Dk.stAppend (segN n) b t).1 ≠ 0 ∧ (Dk.stAppend (segN n) b t).2.fs = t.fs) ∨ ((Dk.stAppend (segN n) b t).1 = 0 ∧ (Dk.stAppend (segN n) b t).2.fs = Dk.appFs (segN n) b t.fs) := by
  obtain ⟨h1, h2⟩ := Dk.chg_same t
  unfold Dk.stAppend Dk.doing
  rw [okN_segN, if_pos rfl]
  split
  · unfold Dk.app1
    split
    · exact .inl ⟨by simp, h2⟩
    · refine .inr ⟨rfl, ?_⟩
      simp only
      rw [h2]
      rfl
  · rename_i hc
    exact .inl ⟨hc, h2⟩
theorem sync_alt {n : Nat} {t : Dk.St} {x : Dk.Fil} (hg : Dk.fget (segN n) t.fs = some x) : ((Dk.stSync (segN n) t).1 ≠ 0 ∧ (Dk.stSync (segN n) t).2.fs = t.fs) ∨ ((Dk.stSync (segN n) t).1 = 0 ∧ (Dk.stSync (segN n) t).2.fs = Dk.fput (segN n, x.2.1, x.2.1.length) t.fs) := by
  obtain ⟨h1, h2⟩ := Dk.chg_same t
  unfold Dk.stSync Dk.doing
  rw [okN_segN, if_pos rfl]
  split
  · unfold Dk.sync1
    rw [h2, hg]
    exact .inr ⟨rfl, rfl⟩
  · rename_i hc
    exact .inl ⟨hc, h2⟩
end Go.Proofs.YtgmpdifggaggdaaGreatDoor.Wl
