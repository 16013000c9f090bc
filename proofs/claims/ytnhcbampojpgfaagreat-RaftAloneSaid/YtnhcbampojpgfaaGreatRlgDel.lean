/-
  Layer 8: slices.Delete of entries. Conditions: the entries are a row of a call's own.
-/
import Derived.Test.YtnhcbampojpgfaaGreatRlgB
namespace Go.Proofs.YtnhcbampojpgfaaGreat.Rg
open Go.RowKit Go.Proofs.YtnhcbampojpgfaaGreat.Fld
set_option linter.unusedVariables false

theorem setCells_blk (g : Nat) (t : TypeId) : ∀ (vs : List Value) (o : Nat) (w : World) (cur : Array Value), Blk w g cur t → o + vs.length ≤ cur.size →
    ∃ cur', Blk (w.setCells g o vs) g cur' t ∧ cur'.size = cur.size ∧ (∀ j, j < o ∨ o + vs.length ≤ j → cur'[j]? = cur[j]?) ∧ ∀ j, j < vs.length → cur'[o + j]? = vs[j]?
  | [], o, w, cur, h, _ => ⟨cur, h, rfl, fun _ _ => rfl, fun j hj => by simp at hj⟩
  | v :: r, o, w, cur, h, hl => by
    simp only [List.length_cons] at hl
    obtain ⟨c2, h1, h2, h3, h4⟩ := setCells_blk g t r (o + 1) (w.setCell ⟨g, o, none⟩ v) _ (h.set o v (by omega)) (by simp; omega)
    refine ⟨c2, h1, by rw [h2]; simp, fun j hj => ?_, fun j hj => ?_⟩
    · simp only [List.length_cons] at hj
      rw [h3 j (by omega), Array.getElem?_setIfInBounds_ne (by omega)]
    · cases j with
      | zero =>
        rw [Nat.add_zero, h3 o (by omega), Array.getElem?_setIfInBounds_self_of_lt (by omega)]
        rfl
      | succ j =>
        have := h4 j (by simp at hj; omega)
        rw [show o + (j + 1) = o + 1 + j by omega, this]
        rfl
theorem fr_setCells {S : List Nat} {a : World} {g : Nat} (hg : g ∈ S ∨ a.heap.size ≤ g) : ∀ (vs : List Value) (o : Nat) (w : World), Dk.Fr S a w → Dk.Fr S a (w.setCells g o vs)
  | [], _, _, h => h
  | v :: r, o, w, h => fr_setCells hg r (o + 1) _ (h.setCell _ hg v)
theorem run_clear_rows (w : World) (t e ty : TypeId) (z : Value) (ht : Tryz.prog.underlying t = some (.slice e)) (hv : ∀ w, (zeroValue e).run Tryz.prog w = .ok z w) (b o n c : Nat) (hn : 0 < n)
    (h1 : ∀ v ∈ (Builtin.zeroCells z.cells n).toList, v.oneCell' = true)
    (hc : ∀ j, j < (Builtin.zeroCells z.cells n).toList.length → (w.cell? ⟨b, o + j, none⟩).isSome = true) (hf : ∀ j, j < (Builtin.zeroCells z.cells n).toList.length → w.frozen? ⟨b, o + j, none⟩ = false) :
    (Builtin.clear_ #[t] ty #[.slice (some ⟨b, o, none⟩) n c]).run Tryz.prog w = .ok (.tuple #[]) (w.setCells b o (Builtin.zeroCells z.cells n).toList) := by
  have hst := run_storeCells_cells (P := Tryz.prog) b o (Builtin.zeroCells z.cells n).toList 0 w (by simpa using hc) (by simpa using hf) h1
  simp only [Nat.add_zero] at hst
  obtain ⟨m, rfl⟩ : ∃ m, n = m + 1 := ⟨n - 1, by omega⟩
  simp [Builtin.clear_, run_underlying ht, hv, hst]
theorem wpList_clear {w : World} {ops : Array Oper} {rest : List Oper} {o : Oper} {a : Act} {Q : Exit → Act → World → Prop} (hgd : o.guard = none) (x : Operand) (t : TypeId)
    (ho : o.op = .call { callee := .builtin .clear, args := #[x], argTypes := #[t] }) (V : Value) (hx : a.eval x = V) (w' : World) (hrun : (Builtin.clear_ #[t] o.type #[V]).run Tryz.prog w = .ok (.tuple #[]) w')
    (h : wpList Tryz.prog ops Q rest (a.put o.dst (.tuple #[])) w') : wpList Tryz.prog ops Q (o :: rest) a w := by
  refine wpList_plain hgd fun _ hK => ?_
  unfold Oper.wp execOp
  simp only [ho, resolve, invoke, builtin, Sem.run_bind, Sem.run_pure, Result.andThen_ok, List.map_toArray, List.map_cons, List.map_nil, hx, hrun]
  exact hK _ _ h
theorem zero_entry (w : World) : (zeroValue 68).run Tryz.prog w = .ok (.agg #[.int .i64 0, .int .i64 0, .int .i64 0, .slice none 0 0]) w := by kernel_rfl
theorem zcells_len (z : Value) (n : Nat) : (Builtin.zeroCells z.cells n).toList.length = z.cells.size * n := by
  simp [Builtin.zeroCells, Nat.mul_comm]
/-- what the move and the clearing leave of a row: m entries from place i on, then zeros behind q = i + m -/
theorem del_end (g n cap i m lo : Nat) (xs : List EA) (news zs : List Value) (w wq : World) (cur : Array Value) (hcur : Blk wq g cur 68) (hg : lo ≤ g) (hnc : n ≤ cap) (hcm : cap ≤ maxLen) (hcs : cur.size = cap * 4) (hcu : cur.toList.take (n * 4) = rowE xs) (hl : xs.length = n) (j : Nat) (hij : i + m ≤ n) (hj : j + m = n) (hnews : news = (rowE xs).drop (j * 4)) (hzl : zs.length = 4 * (n - (i + m))) (hfr : Dk.Fr [g] w wq) :
    ((wq.setCells g (0 + i * 4) news).setCells g (0 + (i + m) * 4) zs).ownsRow lo 68 4 (.slice (some ⟨g, 0, none⟩) (i + m) cap) (i + m) (rowE (xs.take i ++ xs.drop j)) ∧ Dk.Fr [g] w ((wq.setCells g (0 + i * 4) news).setCells g (0 + (i + m) * 4) zs) := by
  have hnl : news.length = m * 4 := by rw [hnews, List.length_drop, rowE_len]; omega
  rw [Nat.zero_add, Nat.zero_add]
  obtain ⟨c1, b1, s1, o1, n1⟩ := setCells_blk g 68 news (i * 4) wq cur hcur (by omega)
  obtain ⟨c2, b2, s2, o2, n2⟩ := setCells_blk g 68 zs ((i + m) * 4) _ c1 b1 (by omega)
  refine ⟨⟨by rw [rowE_len, List.length_append, List.length_take, List.length_drop]; omega, .inr ⟨g, cap, c2, rfl, hg, b2, by omega, hcm, by omega, ?_⟩⟩, fr_setCells (.inl (by simp)) zs _ _ (fr_setCells (.inl (by simp)) news _ _ hfr)⟩
  apply List.ext_getElem?
  intro t
  rw [List.getElem?_take]
  split
  · next ht =>
    rw [Array.getElem?_toList, o2 t (.inl ht), rowE_append, rowE_take, rowE_drop]
    rcases Nat.lt_or_ge t (i * 4) with h | h
    · rw [o1 t (.inl h), List.getElem?_append_left (by rw [List.length_take, rowE_len]; omega), List.getElem?_take, if_pos h, ← hcu, List.getElem?_take, if_pos (by omega), Array.getElem?_toList]
    · have hl2 : ((rowE xs).take (i * 4)).length = i * 4 := by rw [List.length_take, rowE_len]; omega
      rw [List.getElem?_append_right (by omega), hl2, ← hnews, ← n1 (t - i * 4) (by omega), show i * 4 + (t - i * 4) = t by omega]
  · next ht =>
    rw [List.getElem?_eq_none]
    rw [rowE_len, List.length_append, List.length_take, List.length_drop]
    omega
set_option maxRecDepth 100000 in
set_option maxHeartbeats 3200000 in
theorem del_any (g n cap i j m lo : Nat) (xs : List EA) (w : World) (hrow : w.ownsRow lo 68 4 (.slice (some ⟨g, 0, none⟩) n cap) n (rowE xs)) (hij : i < j) (hj : n = j + m) :
    Calls Tryz.prog 162 #[.slice (some ⟨g, 0, none⟩) n cap, .int .i64 (i : Int), .int .i64 (j : Int)] w fun e w' => e = .returned (.slice (some ⟨g, 0, none⟩) (i + m) cap) ∧ w'.ownsRow lo 68 4 (.slice (some ⟨g, 0, none⟩) (i + m) cap) (i + m) (rowE (xs.take i ++ xs.drop j)) ∧ Dk.Fr [g] w w' := by
  obtain ⟨hl, hv | ⟨g', cap', cur, hv, hg, hb, hnc, hcm, hcs, hcu⟩⟩ := hrow
  · cases hv.1
  simp only [Value.slice.injEq, Option.some.injEq, Addr.mk.injEq] at hv
  obtain ⟨⟨rfl, _, _⟩, _, rfl⟩ := hv
  rw [rowE_len] at hl
  have HB := Lib.hid (show Blk w g cur 68 from hb)
  obtain ⟨zs, hzs⟩ : ∃ zs, (Builtin.zeroCells (Value.agg #[.int .i64 0, .int .i64 0, .int .i64 0, .slice none 0 0]).cells (n - (i + m))).toList = zs := ⟨_, rfl⟩
  obtain ⟨news, hnews⟩ : ∃ news, news = (rowE xs).drop (j * 4) := ⟨_, rfl⟩
  have hnl : news.length = m * 4 := by rw [hnews, List.length_drop, rowE_len]; omega
  have hzl : zs.length = 4 * (n - (i + m)) := by rw [← hzs, zcells_len]; rfl
  have hz1 : ∀ v ∈ zs, v.oneCell' = true := by
    intro v hv
    rw [← hzs] at hv
    simp only [Builtin.zeroCells, Array.toList_map, List.mem_map] at hv
    obtain ⟨q, _, rfl⟩ := hv
    have : q % 4 < 4 := Nat.mod_lt _ (by omega)
    show (#[Value.int .i64 0, .int .i64 0, .int .i64 0, .slice none 0 0][q % 4]!).oneCell' = true
    generalize q % 4 = r at *
    obtain rfl | rfl | rfl | rfl : r = 0 ∨ r = 1 ∨ r = 2 ∨ r = 3 := by omega
    all_goals rfl
  have hclear : ∀ (wq : World) (ty : TypeId) (c2 : Array Value), Blk wq g c2 68 → c2.size = cap * 4 → (Builtin.clear_ #[65] ty #[.slice (some ⟨g, 0 + (i + m) * 4, none⟩) (n - (i + m)) (cap - (i + m))]).run Tryz.prog wq = .ok (.tuple #[]) (wq.setCells g (0 + (i + m) * 4) zs) := by
    intro wq ty c2 hbq hsz
    have := run_clear_rows wq 65 68 ty _ Tryz.underlying65 zero_entry g (0 + (i + m) * 4) (n - (i + m)) (cap - (i + m)) (by omega) (by rw [hzs]; exact hz1) (by
      intro t ht
      rw [hzs, hzl] at ht
      rw [cell_of_row wq g _ _ _ (0, 0) hbq, Array.getElem?_eq_getElem (by omega)]
      rfl) (fun t _ => hbq.free _)
    rw [hzs] at this
    exact this
  have HCLS := Lib.hid (show ∀ (wq : World) (ty : TypeId), Blk wq g cur 68 → (Builtin.clear_ #[65] ty #[.slice (some ⟨g, (i + m) * 4, none⟩) (n - (i + m)) (cap - (i + m))]).run Tryz.prog (wq.setCells g (i * 4) news) = .ok (.tuple #[]) ((wq.setCells g (i * 4) news).setCells g ((i + m) * 4) zs) from by
    intro wq ty hbq
    obtain ⟨c1, b1, s1, _, _⟩ := setCells_blk g 68 news (i * 4) wq cur hbq (by omega)
    have := hclear _ ty c1 b1 (by omega)
    rw [Nat.zero_add] at this
    exact this)
  have HEND := Lib.hid (show ∀ wq : World, Still w wq → ((wq.setCells g (i * 4) news).setCells g ((i + m) * 4) zs).ownsRow lo 68 4 (.slice (some ⟨g, 0, none⟩) (i + m) cap) (i + m) (rowE (xs.take i ++ xs.drop j)) ∧ Dk.Fr [g] w ((wq.setCells g (i * 4) news).setCells g ((i + m) * 4) zs) from by
    intro wq hs
    have := del_end g n cap i m lo xs news zs w wq cur (HB.out.still hs) hg hnc hcm hcs hcu (by omega) j (by omega) (by omega) hnews hzl (fr_still hs)
    rw [Nat.zero_add, Nat.zero_add] at this
    exact this)
  have HNW := Lib.hid (show ∀ (wq : World), Still w wq → ∀ (t : Nat) (u : Value), news[t]? = some u → wq.cell? ⟨g, j * 4 + t, none⟩ = some u from by
    intro wq hs t u hu
    rw [cell_of_row wq g _ _ _ (0, 0) (HB.out.still hs)]
    have ht : t < news.length := (List.getElem?_eq_some_iff.1 hu).1
    rw [hnews, List.getElem?_drop, ← hcu, List.getElem?_take, if_pos (by omega), Array.getElem?_toList] at hu
    exact hu)
  have HN1 := Lib.hid (show ∀ u ∈ news, u.oneCell' = true from fun u hu => rowE_one xs u (by rw [hnews] at hu; exact List.mem_of_mem_drop hu))
  have HSP := Lib.hid (show ∀ (wq : World), Still w wq → ∀ t, t < news.length → (wq.cell? ⟨g, 0 + i * 4 + t, none⟩).isSome = true ∧ wq.frozen? ⟨g, 0 + i * 4 + t, none⟩ = false from by
    intro wq hs t ht
    rw [cell_of_row wq g _ _ _ (0, 0) (HB.out.still hs), Array.getElem?_eq_getElem (by omega)]
    exact ⟨rfl, (HB.out.still hs).free _⟩)
  have HNL := Lib.hid hnl
  unfold maxLen at hcm
  clear hb hcs hcu hzs hz1 hclear hzl hnews hnl hl hg
  subst hj
  have g0 : ¬ cap = i := by omega
  have g1 : (0 : Int) ≤ (i : Int) := by omega
  have g2 : (i : Int) ≤ (j : Int) := by omega
  have g3 : (j : Int) ≤ ((j + m : Nat) : Int) := by omega
  have g4 : ¬ j + m = i := by omega
  have g5 : (i : Int) ≤ (cap : Int) := by omega
  have g6 : decide ((i : Int) = (j : Int)) = false := decide_eq_false (by omega)
  have g7 : ((j + m : Nat) : Int) ≤ (cap : Int) := by omega
  have g8 : (j : Int) ≤ (cap : Int) := by omega
  have g9 : ¬ cap = i + m := by omega
  have g10 : (i : Int) + (m : Int) ≤ (j : Int) + (m : Int) := by omega
  have g11 : (j : Int) ≤ (j : Int) + (m : Int) := by omega
  have g12 : (j : Int) + (m : Int) ≤ (cap : Int) := by omega
  have g13 : (0 : Int) ≤ (i : Int) + (m : Int) := by omega
  obtain ⟨inf, i1, i2, i3, i4⟩ := entry_info
  go_enter Tryz.func162, Tryz.ntmps162
  go_wp2_with fail
  by_cases hcj : cap = j
  · have hm0 : m = 0 := by omega
    subst hcj
    subst hm0
    have hn0 : news = [] := List.eq_nil_of_length_eq_zero (by rw [HNL.out])
    subst hn0
    go_region_law (refine step_append_room rfl _ _ 65 rfl 68 inf 4 Tryz.underlying65 i1 i3 g 0 i cap rfl ⟨g, 0, none⟩ 0 _ [] rfl rfl (fun t u hu => by cases hu) (fun u hu => by cases hu) (by omega) (fun t ht => by cases ht) ?_)
    all_goals
      go_wp2_with (refine wpList_clear rfl _ _ rfl _ rfl _ (HCLS.out w.drew _ HB.out) ?_)
      go_ret
      exact ⟨rfl, HEND.out w.drew (Still.refl w)⟩
  · have hcj' : ¬ j = cap := fun h => hcj h.symm
    go_region_law (refine step_append_room rfl _ _ 65 rfl 68 inf 4 Tryz.underlying65 i1 i3 g 0 i cap rfl ⟨g, j * 4, none⟩ m _ news rfl HNL.out (fun t u hu => by rw [add_at]; exact HNW.out _ (Still.refl _) t u hu) HN1.out (by omega) (HSP.out _ (Still.refl _)) ?_)
    all_goals
      go_wp2_with (refine wpList_clear rfl _ _ rfl _ rfl _ (HCLS.out w.drew _ HB.out) ?_)
      go_ret
      exact ⟨rfl, HEND.out w.drew (Still.refl w)⟩
end Go.Proofs.YtnhcbampojpgfaaGreat.Rg
