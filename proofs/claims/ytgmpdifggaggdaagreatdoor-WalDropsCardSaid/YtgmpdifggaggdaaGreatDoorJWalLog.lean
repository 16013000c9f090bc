/-
  Several texts in one: Layer 6: a log in memory, and what add and restart do to it. Conditions: as each theorem states. Layer 6: a slice of ints that grows, in the program's memory. Conditions: as each theorem states. The plain mathematics of layer 6: what the parts of an opening, and of a log's methods, make of a content and of a disk. No condition but those that each theorem states. Layer 6: slices.Delete, at a log's entries (the last ones) and at segments (the first ones). Conditions: as each theorem states. Layer 6: slices.Delete of a log's last entries. Conditions: the entries are a row of the program's own.
-/
import Derived.Test.YtgmpdifggaggdaaGreatDoorJWalEnt
import Derived.Test.YtgmpdifggaggdaaGreatDoorJFieldBase
import Derived.Deep.RegionLaw
import Derived.Test.YtgmpdifggaggdaaGreatDoorJDiskName
import Derived.Test.YtgmpdifggaggdaaGreatDoorJWalName
import Derived.Lib.SliceRun
namespace Go.Proofs.YtgmpdifggaggdaaGreatDoor.Wl
open Go.RowKit Go.Proofs.YtgmpdifggaggdaaGreatDoor.Fld
set_option linter.unusedVariables false

/-- an entry, and where its bytes lie -/
structure EA where
  e : E
  A : Option Addr
  cap : Nat
def EA.cells (x : EA) : List Value := [.int .i64 (x.e.idx : Int), .int .i64 (x.e.term : Int), .int .i64 (x.e.kind : Int), .slice x.A x.e.data.length x.cap]
def rowE (xs : List EA) : List Value := xs.flatMap EA.cells
def Sg.cells (s : Sg) : List Value := [.int .i64 (s.num : Int), .int .i64 (s.next : Int), .int .i64 (s.size : Int)]
def rowS (xs : List Sg) : List Value := xs.flatMap Sg.cells
theorem rowE_append (a b : List EA) : rowE (a ++ b) = rowE a ++ rowE b := by simp [rowE]
theorem rowS_append (a b : List Sg) : rowS (a ++ b) = rowS a ++ rowS b := by simp [rowS]
theorem rowE_len (a : List EA) : (rowE a).length = a.length * 4 := by
  induction a with
  | nil => rfl
  | cons x a ih => unfold rowE at *; rw [List.flatMap_cons, List.length_append, ih, List.length_cons]; show 4 + _ = _; omega
theorem rowS_len (a : List Sg) : (rowS a).length = a.length * 3 := by
  induction a with
  | nil => rfl
  | cons x a ih => unfold rowS at *; rw [List.flatMap_cons, List.length_append, ih, List.length_cons]; show 3 + _ = _; omega
theorem entry_info : ∃ i, Tryz.prog.info? 49 = some i ∧ i.zero = some (.agg #[.int .i64 0, .int .i64 0, .int .i64 0, .slice none 0 0]) ∧ i.size = 4 ∧ i.bytes = 48 := by
  have h : (Tryz.prog.info? 49).map (fun i => (i.zero, i.size, i.bytes)) = some (some (.agg #[.int .i64 0, .int .i64 0, .int .i64 0, .slice none 0 0]), 4, 48) := by kernel_rfl
  cases hq : Tryz.prog.info? 49 with
  | none => simp [hq] at h
  | some i => simp [hq] at h; exact ⟨i, rfl, h⟩
theorem seg_info : ∃ i, Tryz.prog.info? 69 = some i ∧ i.zero = some (.agg #[.int .i64 0, .int .i64 0, .int .i64 0]) ∧ i.size = 3 ∧ i.bytes = 24 := by
  have h : (Tryz.prog.info? 69).map (fun i => (i.zero, i.size, i.bytes)) = some (some (.agg #[.int .i64 0, .int .i64 0, .int .i64 0]), 3, 24) := by kernel_rfl
  cases hq : Tryz.prog.info? 69 with
  | none => simp [hq] at h
  | some i => simp [hq] at h; exact ⟨i, rfl, h⟩
/-- append of rows, at a step of a region that draws its order -/
theorem step_append_row {w : World} {ops : Array Oper} {o : Oper} {a : Act} {K : Act → World → Prop} {Q : Exit → Act → World → Prop} {E : Prop} (hgd : o.guard = none) (s x : Operand) (t : TypeId)
    (ho : o.op = .call { callee := .builtin .append, args := #[s, x], argTypes := #[t, t] })
    (ety : TypeId) (i : TypeInfo) (z : Value) (size bytes : Nat) (ht : Tryz.prog.underlying t = some (.slice ety)) (hi : Tryz.prog.info? ety = some i) (hz : i.zero = some z) (hsize : i.size = size) (hby : i.bytes = bytes) (hzs : z.cells.size = size) (hsz : 0 < size)
    (base : Nat) (v : Value) (n : Nat) (xs : List Value) (hs : a.eval s = v) (hown : w.ownsRow base ety size v n xs)
    (ad : Addr) (m c : Nat) (news : List Value) (hx : a.eval x = .slice (some ad) m c) (hl : news.length = m * size) (hnews : ∀ j u, news[j]? = some u → w.cell? (ad.add j) = some u) (h1 : ∀ u ∈ news, u.oneCell' = true)
    (h63 : n + m ≤ maxLen) (hbytes : (n + m) * bytes ≤ 140737488355328) (hbase : base ≤ w.heap.size)
    (h : ∀ v' w', w'.ownsRow base ety size v' (n + m) (xs ++ news) → w.grownBy w' v.ownBlock → (v'.ownBlock = v.ownBlock ∨ v'.ownBlock = some w.heap.size) → K (a.put o.dst v') w') :
    if Region.wanted o (yielded ops a.tmps) = true then Oper.wp Tryz.prog o a w K Q else E := by
  have hw : Region.wanted o (yielded ops a.tmps) = true := by simp [Region.wanted, hgd]
  rw [if_pos hw]
  obtain ⟨v', w', hrun, hrow', hg, _, hat⟩ := run_append_own_at (P := Tryz.prog) w base t o.type ety i z size bytes ht hi hz hsize hby hzs hsz v n xs hown ad m c news hl hnews h1 h63 hbytes hbase
  unfold Oper.wp execOp
  simp only [ho, resolve, invoke, builtin, Sem.run_bind, Sem.run_pure, Result.andThen_ok, List.map_toArray, List.map_cons, List.map_nil, hs, hx, hrun]
  exact h v' w' hrow' hg hat
theorem add_at (b j : Nat) : Addr.add (⟨b, 0, none⟩ : Addr) j = ⟨b, j, none⟩ := by
  unfold Addr.add
  split
  · simp_all
  · simp
theorem row_ne {w : World} {base size n B : Nat} {ety ty : TypeId} {v : Value} {xs : List Value} {cs : Array Value} (h : w.ownsRow base ety size v n xs) (hB : Blk w B cs ty) (ht : ety ≠ ty) : v.ownBlock ≠ some B := by
  intro he
  rcases h.2 with ⟨rfl, _⟩ | ⟨g, cap, cur, rfl, _, hg, _⟩
  · cases he
  · cases he
    unfold Blk at hB
    rw [hB] at hg
    cases hg
    exact ht rfl
theorem row_lo {w : World} {base size n : Nat} {ety : TypeId} {v : Value} {xs : List Value} (h : w.ownsRow base ety size v n xs) : ∀ i, v.ownBlock = some i → base ≤ i ∧ i < w.heap.size := by
  intro i he
  rcases h.2 with ⟨rfl, _⟩ | ⟨g, cap, cur, rfl, hg, hq, _⟩
  · cases he
  · cases he
    exact ⟨hg, (Array.getElem?_eq_some_iff.1 hq).1⟩
theorem row_of {w w' : World} {base size n : Nat} {ety : TypeId} {v : Value} {xs : List Value} (h : w.ownsRow base ety size v n xs) (hb : ∀ i, v.ownBlock = some i → w'.heap[i]? = w.heap[i]?) : w'.ownsRow base ety size v n xs := by
  obtain ⟨h1, h2⟩ := h
  refine ⟨h1, ?_⟩
  rcases h2 with h2 | ⟨q, cap, cur, hv, hg, hq, r⟩
  · exact .inl h2
  · exact .inr ⟨q, cap, cur, hv, hg, (hb q (by rw [hv]; rfl)).trans hq, r⟩
theorem row_lower {w : World} {base base' size n : Nat} {ety : TypeId} {v : Value} {xs : List Value} (h : w.ownsRow base ety size v n xs) (hb : base' ≤ base) : w.ownsRow base' ety size v n xs := by
  refine ⟨h.1, ?_⟩
  rcases h.2 with h | ⟨q, cap, cur, hv, hg, r⟩
  · exact .inl h
  · exact .inr ⟨q, cap, cur, hv, Nat.le_trans hb hg, r⟩
theorem row_slice {w : World} {base size n : Nat} {ety : TypeId} {v : Value} {xs : List Value} (h : w.ownsRow base ety size v n xs) : ∃ A cap, v = .slice A n cap ∧ (∀ a, A = some a → a.spot = none ∧ a.off = 0) ∧ n ≤ cap ∧ cap ≤ maxLen ∧ (A = none → cap = 0 ∧ n = 0) := by
  rcases h.2 with ⟨rfl, rfl⟩ | ⟨q, cap, cur, rfl, hg, hq, hn, hm, _⟩
  · exact ⟨none, 0, rfl, (fun a h => by cases h), by omega, by unfold maxLen; omega, fun _ => ⟨rfl, rfl⟩⟩
  · exact ⟨_, cap, rfl, (fun a h => by cases h; exact ⟨rfl, rfl⟩), hn, hm, fun h => by cases h⟩
theorem row_not_int {w : World} {base size n : Nat} {ety : TypeId} {c : Int} {xs : List Value} (h : w.ownsRow base ety size (.int .u8 c) n xs) : False := by
  rcases h.2 with ⟨h, _⟩ | ⟨q, cap, cur, h, _⟩ <;> cases h
/-- rows of two kinds lie apart -/
theorem rows_ne {w : World} {base size n base' size' n' : Nat} {ety ety' : TypeId} {v v' : Value} {xs xs' : List Value} (h : w.ownsRow base ety size v n xs) (h' : w.ownsRow base' ety' size' v' n' xs') (ht : ety ≠ ety') : ∀ i, v.ownBlock = some i → v'.ownBlock ≠ some i := by
  intro i hi hi'
  rcases h.2 with ⟨rfl, _⟩ | ⟨g, cap, cur, rfl, _, hg, _⟩
  · cases hi
  · cases hi
    rcases h'.2 with ⟨rfl, _⟩ | ⟨g', cap', cur', rfl, _, hg', _⟩
    · cases hi'
    · cases hi'
      rw [hg] at hg'
      cases hg'
      exact ht rfl
/-- an entry's bytes -/
def DatAt (lo : Nat) (w : World) (x : EA) : Prop := Bytes x.e.data ∧ w.ownsRow lo 5 1 (.slice x.A x.e.data.length x.cap) x.e.data.length (by8 x.e.data)
theorem DatAt.of {lo : Nat} {w w' : World} {x : EA} (h : DatAt lo w x) (hb : ∀ i, (Value.slice x.A x.e.data.length x.cap).ownBlock = some i → w'.heap[i]? = w.heap[i]?) : DatAt lo w' x := ⟨h.1, row_of h.2 hb⟩
theorem DatAt.sl {lo : Nat} {w : World} {x : EA} (h : DatAt lo w x) : Sl w x.A x.e.data.length x.cap x.e.data := by
  obtain ⟨⟨i, tm, k, d⟩, A, cp⟩ := x
  obtain ⟨hb, hl, h⟩ := h
  simp only at hb hl h ⊢
  rcases h with ⟨hv, h0⟩ | ⟨g, cap, cur, hv, hg, hh, hnc, hcm, hcs, hcu⟩
  · have hd : d = [] := List.eq_nil_of_length_eq_zero h0
    subst hd
    simp only [List.length_nil, Value.slice.injEq] at hv
    obtain ⟨rfl, _, rfl⟩ := hv
    exact Sl.nil w
  · simp only [Value.slice.injEq] at hv
    obtain ⟨rfl, _, rfl⟩ := hv
    refine ⟨⟨rfl, by omega, hb, fun hp => ⟨g, 0, rfl, fun i hi => ?_⟩⟩, hnc, hcm, (fun h => by cases h), (fun a ha => by cases ha; rfl)⟩
    rw [Nat.zero_add, cell_of_row w g i cur _ (0, 0) hh, ← by8_at d i hi, ← hcu]
    rw [List.getElem?_take, if_pos (by omega), Array.getElem?_toList]
set_option maxRecDepth 100000 in
set_option maxHeartbeats 3200000 in
theorem add_any (B o : Nat) (cs : Array Value) (ty : TypeId) (lo : Nat) (ve : Value) (xs : List EA) (x : EA) (w : World) (hB : Blk w B cs ty) (h1 : cs[o + 1]? = some ve) (hty : 49 ≠ ty) (hty8 : 5 ≠ ty) (hrow : w.ownsRow lo 49 4 ve xs.length (rowE xs)) (hlo : lo ≤ w.heap.size) (hx : Rd w x.A x.e.data.length x.e.data) (hxA : x.A = none → x.cap = 0) (hxl : x.e.data.length ≤ 4096) (hm : xs.length ≤ 2000000) :
    Calls Tryz.prog 54 #[.pointer (some ⟨B, o, none⟩), entV x.e x.A x.cap] w fun e w' => e = .returned (.tuple #[]) ∧ ∃ v' y, y.e = x.e ∧ Blk w' B (cs.setIfInBounds (o + 1) v') ty ∧ w'.ownsRow lo 49 4 v' (xs.length + 1) (rowE (xs ++ [y])) ∧ DatAt w.heap.size w' y ∧ Dk.Fr (B :: ve.ownBlock.toList) w w' ∧ (v'.ownBlock = ve.ownBlock ∨ ∃ i, v'.ownBlock = some i ∧ w.heap.size ≤ i) := by
  obtain ⟨⟨idx, term, kind, data⟩, A, cap⟩ := x
  unfold entV
  simp only at hx hxA hxl ⊢
  obtain ⟨n, hn⟩ : ∃ n, data.length = n := ⟨_, rfl⟩
  have HN := Lib.hid hn
  rw [hn] at hx hxl ⊢
  have HBe := Lib.hid (alloc_below' w (.cells #[.int .i64 (idx : Int), .int .i64 (term : Int), .int .i64 (kind : Int), .slice A n cap] 49))
  have HE := Lib.hid (Blk.new w #[.int .i64 (idx : Int), .int .i64 (term : Int), .int .i64 (kind : Int), .slice A n cap] 49)
  have HCL := Lib.hid (clone_any A n cap data _ (hx.below HBe.out) hxA (by omega))
  have HB := Lib.hid hB
  have HROW := Lib.hid hrow
  have HBL := Lib.hid hB.lt
  clear hB hx hxA hn
  go_enter Tryz.func54, Tryz.ntmps54
  go_wp2_with fail
  refine HCL.out.mono ?_
  rintro e w1 ⟨v1, rfl, hO⟩
  obtain ⟨A1, c1, rfl, hs1, hf1⟩ := hO.sl n HN.out
  have HB1 := Lib.hid (HBe.out.trans (hO.1.mono HBe.out.size))
  have HE1 := Lib.hid (HE.out.below hO.1)
  have HU := Lib.hid (show DatAt w.heap.size w1 ⟨⟨idx, term, kind, data⟩, A1, c1⟩ by
    refine ⟨hO.2.1, ?_⟩
    simp only
    rw [HN.out]
    have := hO.2.2
    rw [HN.out] at this
    exact row_lower this (by simp))
  have f3 := HE1.out.free 3
  have c3 := HE1.out.cell 3 _ rfl
  clear hO hs1 hf1
  have HE2 := Lib.hid (HE1.out.set 3 (.slice A1 n c1) (by simp))
  have HU2 := Lib.hid (HU.out.of (w' := w1.setCell ⟨w.heap.size, 3, none⟩ (.slice A1 n c1)) (fun i hi => Below.heap_setCell _ _ _ _ (fun h => row_ne HU.out.2 HE1.out (by decide) (by rw [hi, h]))))
  have HB2 := Lib.hid (show Below w.heap.size w (w1.setCell ⟨w.heap.size, 3, none⟩ (.slice A1 n c1)) from HB1.out.setCell (Nat.le_refl _) _)
  obtain ⟨w2, hz⟩ : ∃ w2, w1.setCell ⟨w.heap.size, 3, none⟩ (.slice A1 n c1) = w2 := ⟨_, rfl⟩
  rw [hz] at HE2 HU2 HB2
  go_wp2_with fail
  have HBw := Lib.hid (HB.out.of (HB2.out.block B HBL.out))
  have HRW := Lib.hid (row_of HROW.out (fun i hi => HB2.out.block i (row_lo HROW.out i hi).2))
  have HL2 := Lib.hid (show B < w2.heap.size from HBw.out.lt)
  have HL3 := Lib.hid (show w.heap.size < w2.heap.size from HE2.out.lt)
  have HK := Lib.hid (show ∀ W : World, W.heap[B]? = w2.heap[B]? → W.heap[w.heap.size]? = w2.heap[w.heap.size]? → W.cell? ⟨B, o + 1, none⟩ = some ve ∧ W.cell? ⟨w.heap.size, 0, none⟩ = some (.int .i64 (idx : Int)) ∧ W.cell? ⟨w.heap.size, 1, none⟩ = some (.int .i64 (term : Int)) ∧ W.cell? ⟨w.heap.size, 2, none⟩ = some (.int .i64 (kind : Int)) ∧ W.cell? ⟨w.heap.size, 3, none⟩ = some (.slice A1 n c1) from fun W hW1 hW2 =>
    ⟨(HBw.out.of hW1).cell _ _ h1, (HE2.out.of hW2).cell 0 _ rfl, (HE2.out.of hW2).cell 1 _ rfl, (HE2.out.of hW2).cell 2 _ rfl, (HE2.out.of hW2).cell 3 _ rfl⟩)
  have HNW := Lib.hid (show ∀ (j : Nat) (u : Value), [Value.int .i64 (idx : Int), Value.int .i64 (term : Int), Value.int .i64 (kind : Int), Value.slice A1 n c1][j]? = some u → (w2.alloc (.cells #[.int .i64 (idx : Int), .int .i64 (term : Int), .int .i64 (kind : Int), .slice A1 n c1] 49)).cell? (Addr.add ⟨w2.heap.size, 0, none⟩ j) = some u from fun j u hj => by
    rw [add_at, World.cell?_alloc_mark]
    simpa using hj)
  have HRA := Lib.hid (row_of HRW.out (fun i hi => Below.heap_alloc w2 (.cells #[.int .i64 (idx : Int), .int .i64 (term : Int), .int .i64 (kind : Int), .slice A1 n c1] 49) i (row_lo HRW.out i hi).2))
  have HLO := Lib.hid (show lo ≤ (w2.alloc (.cells #[.int .i64 (idx : Int), .int .i64 (term : Int), .int .i64 (kind : Int), .slice A1 n c1] 49)).heap.size by have := HB2.out.size; simp; omega)
  have HNB := Lib.hid (show ve.ownBlock ≠ some B from row_ne HRW.out HBw.out hty)
  have HNE := Lib.hid (show ve.ownBlock ≠ some w.heap.size from fun h => by have := (row_lo HROW.out _ h).2; omega)
  obtain ⟨inf, i1, i2, i3, i4⟩ := entry_info
  obtain ⟨s0, s1, s2, s3, s4⟩ := HK.out w2 rfl rfl
  clear hz c3 f3
  have a0 : ∀ ob, (w2.alloc ob).cell? ⟨B, o + 1, none⟩ = some ve := fun ob => (HK.out _ (Below.heap_alloc _ ob _ HL2.out) (Below.heap_alloc _ ob _ HL3.out)).1
  go_region_law ((first
    | (refine step_append_row rfl _ _ 22 rfl 49 inf _ 4 48 Tryz.underlying22 i1 i2 i3 i4 rfl (by omega) lo ve xs.length (rowE xs) rfl HRA.out ⟨w2.heap.size, 0, none⟩ 1 1 [.int .i64 (idx : Int), .int .i64 (term : Int), .int .i64 (kind : Int), .slice A1 n c1] rfl rfl HNW.out (by simp [Value.oneCell']) (by unfold maxLen; omega) (by omega) HLO.out ?_; intro v' w3 hr3 hg3 hat3; obtain ⟨VA, vc, hvv, _⟩ := row_slice hr3; subst hvv; have HR3 := Lib.hid hr3; have HG3 := Lib.hid hg3; have HA3 := Lib.hid hat3; have hB3 := HBw.out.of ((hg3.block B (by have := HL2.out; simp; omega) (fun h => HNB.out h.symm)).trans (Below.heap_alloc _ _ _ HL2.out)); have HK3 := Lib.hid (HK.out w3 ((hg3.block B (by have := HL2.out; simp; omega) (fun h => HNB.out h.symm)).trans (Below.heap_alloc _ _ _ HL2.out)) ((hg3.block w.heap.size (by have := HL3.out; simp; omega) (fun h => HNE.out h.symm)).trans (Below.heap_alloc _ _ _ HL3.out))); have HB3 := Lib.hid hB3; have fz := hB3.free (o + 1); have cz := hB3.cell _ _ h1; clear hr3 hg3 hat3 hB3)
    ))
  all_goals
    go_end0
    have hrow4 : w3.ownsRow lo 49 4 (.slice VA (xs.length + 1) vc) (xs.length + 1) (rowE (xs ++ [⟨⟨idx, term, kind, data⟩, A1, c1⟩])) := by
      rw [rowE_append]
      have e1 : rowE [(⟨⟨idx, term, kind, data⟩, A1, c1⟩ : EA)] = [.int .i64 (idx : Int), .int .i64 (term : Int), .int .i64 (kind : Int), .slice A1 n c1] := by
        unfold rowE EA.cells
        simp only [List.flatMap_cons, List.flatMap_nil, List.append_nil]
        rw [HN.out]
      rw [e1]
      exact HR3.out
    have hnb := row_ne hrow4 HB3.out hty
    have hf : Dk.Fr (B :: ve.ownBlock.toList) w w3 := ((Dk.Fr.below HB2.out).alloc _).drew.grown HG3.out (fun i hi => .inl (by rw [hi]; simp))
    have hu3 : DatAt w.heap.size w3 ⟨⟨idx, term, kind, data⟩, A1, c1⟩ := HU2.out.of (fun i hi => (HG3.out.block i (by have := (row_lo HU2.out.2 i hi).2; show i < (w2.alloc _).heap.size; simp; omega) (fun h => rows_ne HU2.out.2 HRW.out (by decide) i hi h.symm)).trans (Below.heap_alloc _ _ _ (row_lo HU2.out.2 i hi).2))
    refine ⟨rfl, .slice VA (xs.length + 1) vc, ⟨⟨idx, term, kind, data⟩, A1, c1⟩, rfl, HB3.out.set (o + 1) _ ?_, row_of hrow4 (fun i hi => Below.heap_setCell _ _ _ _ (fun h => hnb (by rw [hi, h]))), ?_, hf.setCell _ (.inl (by simp)) _, ?_⟩
    · rcases Nat.lt_or_ge (o + 1) cs.size with h | h
      · exact h
      · rw [Array.getElem?_eq_none h] at h1; cases h1
    · exact hu3.of (fun i hi => Below.heap_setCell _ _ _ _ (fun h => row_ne hu3.2 HB3.out hty8 (by rw [hi, h])))
    · rcases HA3.out with h | h
      · exact .inl h
      · refine .inr ⟨_, h, ?_⟩
        have := HL3.out
        simp
        omega
end Go.Proofs.YtgmpdifggaggdaaGreatDoor.Wl

namespace Go.Proofs.YtgmpdifggaggdaaGreatDoor.Wl
open Go.RowKit Go.Proofs.YtgmpdifggaggdaaGreatDoor.Fld
set_option linter.unusedVariables false

theorem ints_len (k : List Nat) : (ints k).length = k.length := by simp [ints]
def vOf (l : List Nat) : List Value := l.map fun (n : Nat) => .int .i64 (n : Int)
theorem vOf_snoc (l : List Nat) (n : Nat) : vOf (l ++ [n]) = vOf l ++ [.int .i64 (n : Int)] := by simp [vOf]
theorem int_info : ∃ i, Tryz.prog.info? 3 = some i ∧ i.zero = some (.int .i64 0) ∧ i.size = 1 ∧ i.bytes = 8 := by
  have h : (Tryz.prog.info? 3).map (fun i => (i.zero, i.size, i.bytes)) = some (some (.int .i64 0), 1, 8) := by kernel_rfl
  cases hq : Tryz.prog.info? 3 with
  | none => simp [hq] at h
  | some i => simp [hq] at h; exact ⟨i, rfl, h⟩
theorem wpList_append_int {w : World} {ops : Array Oper} {rest : List Oper} {o : Oper} {a : Act} {Q : Exit → Act → World → Prop} (hgd : o.guard = none) (s x : Operand)
    (ho : o.op = .call { callee := .builtin .append, args := #[s, x], argTypes := #[25, 25] })
    (base : Nat) (v : Value) (k : Nat) (vs : List Value) (z : Int) (hs : a.eval s = v) (hown : w.ownsRow base 3 1 v k vs) (g : Nat) (hx : a.eval x = .slice (some ⟨g, 0, none⟩) 1 1) (hc : w.cell? ⟨g, 0, none⟩ = some (.int .i64 z))
    (hk : k + 1 ≤ 1099511627776) (hb : base ≤ w.heap.size)
    (h : ∀ v' w', w'.ownsRow base 3 1 v' (k + 1) (vs ++ [.int .i64 z]) → w.grownBy w' v.ownBlock → wpList Tryz.prog ops Q rest (a.put o.dst v') w') : wpList Tryz.prog ops Q (o :: rest) a w := by
  obtain ⟨i, hi, hz, hsz, hby⟩ := int_info
  refine wpList_append_own_at w hgd s x _ ho base 3 i _ 1 8 Tryz.underlying25 hi hz hsz hby rfl (by omega) v k vs hs hown ⟨g, 0, none⟩ 1 1 [.int .i64 z] hx rfl ?_ ?_ (by unfold maxLen; omega) (by omega) hb ?_
  · intro j u hu
    rcases j with _ | j
    · simp at hu; subst hu; exact hc
    · simp at hu
  · intro u hu; simp at hu; subst hu; rfl
  · intro v' w' h1 h2 _ _
    exact h v' w' h1 h2
theorem row_rdI {W : World} {base k : Nat} {v : Value} {l : List Nat} (h : W.ownsRow base 3 1 v k (vOf l)) (hk : k ≤ 1000000) : ∃ A cap, v = .slice A k cap ∧ Dk.RdI W A k (ints l) ∧ (A = none → cap = 0) ∧ l.length = k ∧ k ≤ cap ∧ ∀ a, A = some a → base ≤ a.block := by
  obtain ⟨h1, h2⟩ := h
  have hl : l.length = k := by simpa [vOf] using h1
  rcases h2 with ⟨rfl, h0⟩ | ⟨g, cap, cur, rfl, hg, hh, hnc, hcm, hcs, hcu⟩
  · subst h0
    exact ⟨none, 0, rfl, ⟨by rw [ints_len]; exact hl, by unfold maxLen; omega, fun h => by omega⟩, fun _ => rfl, hl, Nat.le_refl _, fun a h => by cases h⟩
  · refine ⟨_, _, rfl, ⟨by rw [ints_len]; exact hl, by unfold maxLen; omega, fun _ => ⟨g, 0, rfl, fun i hi => ?_⟩⟩, (fun h => by cases h), hl, hnc, fun a ha => by injection ha with ha; rw [← ha]; exact hg⟩
    rw [Nat.zero_add, cell_of_row W g i cur _ (0, 0) hh, ints_at l i (by omega)]
    have : (vOf l)[i]? = some (.int .i64 ((l.getD i 0 : Nat) : Int)) := by simp [vOf, show i < l.length by omega]
    rw [← this, ← hcu, List.getElem?_take, if_pos (by omega), Array.getElem?_toList]
/-- the numbers of the segments among files -/
def numsN (fs : List Dk.Fil) : List Nat := (segsOf fs).map Prod.fst
theorem segsOf_take (fs : List Dk.Fil) (k : Nat) (h : k < fs.length) : segsOf (fs.take (k + 1)) = segsOf (fs.take k) ++ (if 0 < numOf fs[k].1 then [(numOf fs[k].1, fs[k].2.1)] else []) := by
  unfold segsOf
  rw [List.take_succ_eq_append_getElem h, List.filterMap_append]
  congr 1
  simp only [List.filterMap_cons, List.filterMap_nil]
  split <;> split <;> simp_all
theorem numsN_yes (fs : List Dk.Fil) (k : Nat) (h : k < fs.length) (hn : 0 < numOf fs[k].1) : numsN (fs.take (k + 1)) = numsN (fs.take k) ++ [numOf fs[k].1] := by
  unfold numsN
  rw [segsOf_take fs k h, if_pos hn, List.map_append]
  rfl
theorem numsN_no (fs : List Dk.Fil) (k : Nat) (h : k < fs.length) (hn : ¬ 0 < numOf fs[k].1) : numsN (fs.take (k + 1)) = numsN (fs.take k) := by
  unfold numsN
  rw [segsOf_take fs k h, if_neg hn, List.append_nil]
theorem numsN_len (fs : List Dk.Fil) : (numsN fs).length ≤ fs.length := by
  unfold numsN segsOf
  rw [List.length_map]
  exact List.length_filterMap_le _ _
end Go.Proofs.YtgmpdifggaggdaaGreatDoor.Wl

namespace Go.Proofs.YtgmpdifggaggdaaGreatDoor.Wl
open Go.Proofs.YtgmpdifggaggdaaGreatDoor.Fld
set_option linter.unusedVariables false

/-- a part of what a method does -/
abbrev Sp := Ct → Dk.St → Int × Ct × Dk.St
def spRun : List Sp → Sp
  | [], c, t => (0, c, t)
  | s :: r, c, t => if (s c t).1 = 0 then spRun r (s c t).2.1 (s c t).2.2 else s c t
/-- the last segment's number -/
def lastN (c : Ct) : Nat := match c.segs.getLast? with | some s => s.num | none => 0
def spDisk (f : Dk.St → Int × Dk.St) : Sp := fun c t => ((f t).1, c, (f t).2)
def spWrite (b : List Int) : Sp := fun c t => ((Dk.stAppend (segN (lastN c)) b t).1, if (Dk.stAppend (segN (lastN c)) b t).1 = 0 then ⟨c.lg, addSz b.length c.segs⟩ else c, (Dk.stAppend (segN (lastN c)) b t).2)
def spSync : Sp := fun c t => spDisk (Dk.stSync (segN (lastN c))) c t
def spCreate (n : Nat) : Sp := fun c t => spRun [spWrite (Rc.recd (chC (.head n (c.lg.last + 1)))), spSync] ⟨c.lg, c.segs ++ [⟨n, c.lg.last + 1, 0⟩]⟩ t
/-- wal.new -/
def freshN : Dk.Nm := [119, 97, 108, 46, 110, 101, 119]
def spFresh : Sp := fun c t => if (Dk.fget freshN t.fs).isSome then spDisk (Dk.stUnlink freshN) c t else (0, c, t)
noncomputable def spLoad : Sp := fun _ t => (0, scanD t.fs, t)
def spShorten : Sp := fun c t => match c.segs.getLast? with
  | none => (0, c, t)
  | some s => if (Dk.stRead (segN s.num) t).1 ≠ 0 ∨ (Dk.stRead (segN s.num) t).2.length = s.size then ((Dk.stRead (segN s.num) t).1, c, t)
    else spRun [spDisk (Dk.stAppend freshN ((Dk.stRead (segN s.num) t).2.take s.size)), spDisk (Dk.stSync freshN), spDisk (Dk.stRename freshN (segN s.num))] c t
def spRest : Sp := fun c t => spRun (((numsN t.fs).drop c.segs.length).map fun n => spDisk (Dk.stUnlink (segN n))) c t
def spStart : Sp := fun c t => if c.segs = [] then spCreate 1 c t else (0, c, t)
noncomputable def spOpen : Sp := spRun [spFresh, spLoad, spShorten, spRest, spStart]
/-- what the methods' own parts make of the log alone -/
def spLog (f : Lg → Lg) : Sp := fun c t => (0, ⟨f c.lg, c.segs⟩, t)
def spRoom (lim : Nat) : Sp := fun c t => match c.segs.getLast? with
  | none => (0, c, t)
  | some s => if s.size < lim ∨ s.num = 99999999 then (0, c, t) else spRun [spSync, spCreate (s.num + 1)] c t
def spAdd (lim : Nat) (e : E) : Sp := spRun [spRoom lim, spWrite (Rc.recd (chC (.entry e))), spLog fun l => l.add e]
def spCut (i : Nat) : Sp := spRun [spWrite (Rc.recd (chC (.cut i))), spLog fun l => l.cut i]
def spReset (i : Nat) : Sp := spRun [spWrite (Rc.recd (chC (.reset i))), spLog fun _ => Lg.restart i]
def needless (before : Int) : List Sg → Nat
  | s :: u :: r => if (u.next : Int) ≤ before then needless before (u :: r) + 1 else 0
  | _ => 0
noncomputable def spForget (old : Nat) : Sp := fun c t => (0, ⟨(scanD t.fs).lg, c.segs.drop old⟩, t)
noncomputable def spDrop (old : Nat) : Sp := fun c t => spRun ((c.segs.take old).map (fun s => spDisk (Dk.stUnlink (segN s.num))) ++ [spForget old]) c t
theorem spRun_ok {s : Sp} {r : List Sp} {c : Ct} {t : Dk.St} (h : (s c t).1 = 0) : spRun (s :: r) c t = spRun r (s c t).2.1 (s c t).2.2 := by rw [spRun, if_pos h]
theorem spRun_no {s : Sp} {r : List Sp} {c : Ct} {t : Dk.St} (h : (s c t).1 ≠ 0) : spRun (s :: r) c t = s c t := by rw [spRun, if_neg h]
theorem spRun_nil (c : Ct) (t : Dk.St) : spRun [] c t = (0, c, t) := rfl
theorem spRun_app : ∀ (a b : List Sp) (c : Ct) (t : Dk.St), spRun (a ++ b) c t = if (spRun a c t).1 = 0 then spRun b (spRun a c t).2.1 (spRun a c t).2.2 else spRun a c t
  | [], b, c, t => by simp [spRun]
  | s :: a, b, c, t => by
    rw [List.cons_append]
    by_cases h : (s c t).1 = 0
    · rw [spRun_ok h, spRun_ok h, spRun_app a b]
    · rw [spRun_no h, spRun_no h, if_neg h]
end Go.Proofs.YtgmpdifggaggdaaGreatDoor.Wl

namespace Go.Proofs.YtgmpdifggaggdaaGreatDoor.Wl
open Go.RowKit Go.Proofs.YtgmpdifggaggdaaGreatDoor.Fld
set_option linter.unusedVariables false

theorem setCells_blk (g : Nat) (t : TypeId) : ∀ (vs : List Value) (o : Nat) (w : World) (cur : Array Value), Blk w g cur t → o + vs.length ≤ cur.size →
    ∃ cur', Blk (w.setCells g o vs) g cur' t ∧ cur'.size = cur.size ∧ (∀ j, j < o ∨ o + vs.length ≤ j → cur'[j]? = cur[j]?) ∧ ∀ j, j < vs.length → cur'[o + j]? = vs[j]?
  | [], o, w, cur, h, _ => ⟨cur, h, rfl, fun _ _ => rfl, fun j hj => by simp at hj⟩
  | v :: r, o, w, cur, h, hl => by
    simp only [List.length_cons] at hl
    obtain ⟨c2, h1, h2, h3, h4⟩ := setCells_blk g t r (o + 1) (w.setCell ⟨g, o, none⟩ v) _ (h.set o v (by omega)) (by simp; omega)
    refine ⟨c2, h1, by rw [h2]; simp, fun j hj => ?_, fun j hj => ?_⟩
    · simp only [List.length_cons] at hj
      rw [h3 j (by omega), Array.getElem?_setIfInBounds_ne (by omega)]
    · cases j with
      | zero =>
        rw [Nat.add_zero, h3 o (by omega), Array.getElem?_setIfInBounds_self_of_lt (by omega)]
        rfl
      | succ j =>
        have := h4 j (by simp at hj; omega)
        rw [show o + (j + 1) = o + 1 + j by omega, this]
        rfl
theorem fr_setCells {S : List Nat} {a : World} {g : Nat} (hg : g ∈ S ∨ a.heap.size ≤ g) : ∀ (vs : List Value) (o : Nat) (w : World), Dk.Fr S a w → Dk.Fr S a (w.setCells g o vs)
  | [], _, _, h => h
  | v :: r, o, w, h => fr_setCells hg r (o + 1) _ (h.setCell _ hg v)
theorem run_clear_rows (w : World) (t e ty : TypeId) (z : Value) (ht : Tryz.prog.underlying t = some (.slice e)) (hv : ∀ w, (zeroValue e).run Tryz.prog w = .ok z w) (b o n c : Nat) (hn : 0 < n)
    (h1 : ∀ v ∈ (Builtin.zeroCells z.cells n).toList, v.oneCell' = true)
    (hc : ∀ j, j < (Builtin.zeroCells z.cells n).toList.length → (w.cell? ⟨b, o + j, none⟩).isSome = true) (hf : ∀ j, j < (Builtin.zeroCells z.cells n).toList.length → w.frozen? ⟨b, o + j, none⟩ = false) :
    (Builtin.clear_ #[t] ty #[.slice (some ⟨b, o, none⟩) n c]).run Tryz.prog w = .ok (.tuple #[]) (w.setCells b o (Builtin.zeroCells z.cells n).toList) := by
  have hst := run_storeCells_cells (P := Tryz.prog) b o (Builtin.zeroCells z.cells n).toList 0 w (by simpa using hc) (by simpa using hf) h1
  simp only [Nat.add_zero] at hst
  obtain ⟨m, rfl⟩ : ∃ m, n = m + 1 := ⟨n - 1, by omega⟩
  simp [Builtin.clear_, run_underlying ht, hv, hst]
theorem wpList_clear {w : World} {ops : Array Oper} {rest : List Oper} {o : Oper} {a : Act} {Q : Exit → Act → World → Prop} (hgd : o.guard = none) (x : Operand) (t : TypeId)
    (ho : o.op = .call { callee := .builtin .clear, args := #[x], argTypes := #[t] }) (V : Value) (hx : a.eval x = V) (w' : World) (hrun : (Builtin.clear_ #[t] o.type #[V]).run Tryz.prog w = .ok (.tuple #[]) w')
    (h : wpList Tryz.prog ops Q rest (a.put o.dst (.tuple #[])) w') : wpList Tryz.prog ops Q (o :: rest) a w := by
  refine wpList_plain hgd fun _ hK => ?_
  unfold Oper.wp execOp
  simp only [ho, resolve, invoke, builtin, Sem.run_bind, Sem.run_pure, Result.andThen_ok, List.map_toArray, List.map_cons, List.map_nil, hx, hrun]
  exact hK _ _ h
theorem zero_entry (w : World) : (zeroValue 49).run Tryz.prog w = .ok (.agg #[.int .i64 0, .int .i64 0, .int .i64 0, .slice none 0 0]) w := by kernel_rfl
theorem zcells_len (z : Value) (n : Nat) : (Builtin.zeroCells z.cells n).toList.length = z.cells.size * n := by
  simp [Builtin.zeroCells, Nat.mul_comm]
end Go.Proofs.YtgmpdifggaggdaaGreatDoor.Wl

namespace Go.Proofs.YtgmpdifggaggdaaGreatDoor.Wl
open Go.RowKit Go.Proofs.YtgmpdifggaggdaaGreatDoor.Fld
set_option linter.unusedVariables false

set_option maxRecDepth 100000 in
set_option maxHeartbeats 3200000 in
theorem delE_any (g n cap i lo : Nat) (xs : List Value) (w : World) (hrow : w.ownsRow lo 49 4 (.slice (some ⟨g, 0, none⟩) n cap) n xs) (hi : i < n) :
    Calls Tryz.prog 122 #[.slice (some ⟨g, 0, none⟩) n cap, .int .i64 (i : Int), .int .i64 (n : Int)] w fun e w' => e = .returned (.slice (some ⟨g, 0, none⟩) i cap) ∧ w'.ownsRow lo 49 4 (.slice (some ⟨g, 0, none⟩) i cap) i (xs.take (i * 4)) ∧ Dk.Fr [g] w w' := by
  obtain ⟨hl, hv | ⟨g', cap', cur, hv, hg, hb, hnc, hcm, hcs, hcu⟩⟩ := hrow
  · cases hv.1
  simp only [Value.slice.injEq, Option.some.injEq, Addr.mk.injEq] at hv
  obtain ⟨⟨rfl, _, _⟩, _, rfl⟩ := hv
  have HB := Lib.hid (show Blk w g cur 49 from hb)
  have HH := Lib.hid (⟨hl, hg, hcs, hcu⟩ : _ ∧ _ ∧ _ ∧ _)
  unfold maxLen at hcm
  obtain ⟨zs, hzs⟩ : ∃ zs, (Builtin.zeroCells (Value.agg #[.int .i64 0, .int .i64 0, .int .i64 0, .slice none 0 0]).cells (n - i)).toList = zs := ⟨_, rfl⟩
  have hzl : zs.length = 4 * (n - i) := by rw [← hzs, zcells_len]; rfl
  have hz1 : ∀ v ∈ zs, v.oneCell' = true := by
    intro v hv
    rw [← hzs] at hv
    simp only [Builtin.zeroCells, Array.toList_map, List.mem_map] at hv
    obtain ⟨q, _, rfl⟩ := hv
    have : q % 4 < 4 := Nat.mod_lt _ (by omega)
    show (#[Value.int .i64 0, .int .i64 0, .int .i64 0, .slice none 0 0][q % 4]!).oneCell' = true
    generalize q % 4 = r at *
    obtain rfl | rfl | rfl | rfl : r = 0 ∨ r = 1 ∨ r = 2 ∨ r = 3 := by omega
    all_goals rfl
  have hclear : ∀ (wq : World) (ty : TypeId), Blk wq g cur 49 → (Builtin.clear_ #[22] ty #[.slice (some ⟨g, i * 4, none⟩) (n - i) (cap - i)]).run Tryz.prog wq = .ok (.tuple #[]) (wq.setCells g (i * 4) zs) := by
    intro wq ty hbq
    have := run_clear_rows wq 22 49 ty _ Tryz.underlying22 zero_entry g (i * 4) (n - i) (cap - i) (by omega) (by rw [hzs]; exact hz1) (by
      intro j hj
      rw [hzs, hzl] at hj
      rw [cell_of_row wq g _ _ _ (0, 0) hbq, Array.getElem?_eq_getElem (by rw [HH.out.2.2.1]; omega)]
      rfl) (fun j _ => hbq.free _)
    rw [hzs] at this
    exact this
  have HCL := Lib.hid hclear
  have HZL := Lib.hid hzl
  clear hl hg hb hcs hcu hzs hz1 hclear hzl
  have g0 : ¬ cap = i := by omega
  have g1 : (0 : Int) ≤ (i : Int) := by omega
  have g2 : (i : Int) ≤ (n : Int) := by omega
  have g3 : (n : Int) ≤ (cap : Int) := by omega
  have g4 : ¬ n = i := by omega
  have g5 : (i : Int) ≤ (cap : Int) := by omega
  have g6 : decide ((i : Int) = (n : Int)) = false := decide_eq_false (by omega)
  go_enter Tryz.func122, Tryz.ntmps122
  go_wp2_with fail
  obtain ⟨inf, i1, i2, i3, i4⟩ := entry_info
  have w1 : ∀ W : World, W.setCells g (0 + i * 4) [] = W := fun _ => rfl
  have HEND := Lib.hid (show ∀ wq : World, wq.heap = w.heap → wq.os = w.os → wq.tape = w.tape → wq.output = w.output → (wq.setCells g (i * 4) zs).ownsRow lo 49 4 (.slice (some ⟨g, 0, none⟩) i cap) i (xs.take (i * 4)) ∧ Dk.Fr [g] w (wq.setCells g (i * 4) zs) from by
    intro wq hq1 hq2 hq3 hq4
    obtain ⟨h1, h2, h3, h4⟩ := HH.out
    have hbq : Blk wq g cur 49 := by unfold Blk; rw [hq1]; exact HB.out
    obtain ⟨cur', k1, k2, k3, _⟩ := setCells_blk g 49 zs (i * 4) wq cur hbq (by rw [HZL.out]; omega)
    refine ⟨⟨by rw [List.length_take]; omega, .inr ⟨g, cap, cur', rfl, h2, k1, by omega, by unfold maxLen; omega, by rw [k2]; exact h3, ?_⟩⟩, fr_setCells (.inl (by simp)) zs _ wq ⟨hq2, hq3, hq4, by rw [hq1]; exact Nat.le_refl _, fun _ _ _ => by rw [hq1]⟩⟩
    rw [← h4, List.take_take]
    apply List.ext_getElem?
    intro j
    rw [List.getElem?_take, List.getElem?_take]
    by_cases hj : j < i * 4
    · rw [if_pos hj, if_pos (by omega), Array.getElem?_toList, Array.getElem?_toList, k3 j (.inl hj)]
    · rw [if_neg hj, if_neg (by omega)])
  by_cases hcn : cap = n
  · subst hcn
    go_region_law (refine step_append_room rfl _ _ 22 rfl 49 inf 4 Tryz.underlying22 i1 i3 g 0 i cap rfl _ 0 _ [] rfl rfl (fun j u hj => by cases hj) (fun u hu => by cases hu) (by omega) (fun j hj => by cases hj) ?_)
    all_goals
      go_wp2_with (refine wpList_clear rfl _ _ rfl _ rfl _ (HCL.out _ _ HB.out) ?_)
      go_ret
      exact ⟨rfl, HEND.out _ rfl rfl rfl rfl⟩
  · have hcn' : ¬ n = cap := fun h => hcn h.symm
    go_region_law (refine step_append_room rfl _ _ 22 rfl 49 inf 4 Tryz.underlying22 i1 i3 g 0 i cap rfl _ 0 _ [] rfl rfl (fun j u hj => by cases hj) (fun u hu => by cases hu) (by omega) (fun j hj => by cases hj) ?_)
    all_goals
      go_wp2_with (refine wpList_clear rfl _ _ rfl _ rfl _ (HCL.out _ _ HB.out) ?_)
      go_ret
      exact ⟨rfl, HEND.out _ rfl rfl rfl rfl⟩
end Go.Proofs.YtgmpdifggaggdaaGreatDoor.Wl
