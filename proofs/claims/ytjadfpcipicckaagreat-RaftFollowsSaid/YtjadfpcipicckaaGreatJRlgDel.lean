/-
  Several texts in one: Layer 8: slices.Delete of entries. Conditions: the entries are a row of a call's own. Layer 8: the program's log and what changes it: New, Add, replace, Merge, Commit, Apply, Compact, Reset; and Get, Back, Newer. Conditions: the log lies in memory as it was made; what comes in lies in older memory.
-/
import Derived.Test.YtjadfpcipicckaaGreatJRlgD
namespace Go.Proofs.YtjadfpcipicckaaGreat.Rg
open Go.RowKit Go.Proofs.YtjadfpcipicckaaGreat.Fld
set_option linter.unusedVariables false

theorem setCells_blk (g : Nat) (t : TypeId) : ∀ (vs : List Value) (o : Nat) (w : World) (cur : Array Value), Blk w g cur t → o + vs.length ≤ cur.size →
    ∃ cur', Blk (w.setCells g o vs) g cur' t ∧ cur'.size = cur.size ∧ (∀ j, j < o ∨ o + vs.length ≤ j → cur'[j]? = cur[j]?) ∧ ∀ j, j < vs.length → cur'[o + j]? = vs[j]?
  | [], o, w, cur, h, _ => ⟨cur, h, rfl, fun _ _ => rfl, fun j hj => by simp at hj⟩
  | v :: r, o, w, cur, h, hl => by
    simp only [List.length_cons] at hl
    obtain ⟨c2, h1, h2, h3, h4⟩ := setCells_blk g t r (o + 1) (w.setCell ⟨g, o, none⟩ v) _ (h.set o v (by omega)) (by simp; omega)
    refine ⟨c2, h1, by rw [h2]; simp, fun j hj => ?_, fun j hj => ?_⟩
    · simp only [List.length_cons] at hj
      rw [h3 j (by omega), Array.getElem?_setIfInBounds_ne (by omega)]
    · cases j with
      | zero =>
        rw [Nat.add_zero, h3 o (by omega), Array.getElem?_setIfInBounds_self_of_lt (by omega)]
        rfl
      | succ j =>
        have := h4 j (by simp at hj; omega)
        rw [show o + (j + 1) = o + 1 + j by omega, this]
        rfl
theorem fr_setCells {S : List Nat} {a : World} {g : Nat} (hg : g ∈ S ∨ a.heap.size ≤ g) : ∀ (vs : List Value) (o : Nat) (w : World), Dk.Fr S a w → Dk.Fr S a (w.setCells g o vs)
  | [], _, _, h => h
  | v :: r, o, w, h => fr_setCells hg r (o + 1) _ (h.setCell _ hg v)
theorem run_clear_rows (w : World) (t e ty : TypeId) (z : Value) (ht : Tryz.prog.underlying t = some (.slice e)) (hv : ∀ w, (zeroValue e).run Tryz.prog w = .ok z w) (b o n c : Nat) (hn : 0 < n)
    (h1 : ∀ v ∈ (Builtin.zeroCells z.cells n).toList, v.oneCell' = true)
    (hc : ∀ j, j < (Builtin.zeroCells z.cells n).toList.length → (w.cell? ⟨b, o + j, none⟩).isSome = true) (hf : ∀ j, j < (Builtin.zeroCells z.cells n).toList.length → w.frozen? ⟨b, o + j, none⟩ = false) :
    (Builtin.clear_ #[t] ty #[.slice (some ⟨b, o, none⟩) n c]).run Tryz.prog w = .ok (.tuple #[]) (w.setCells b o (Builtin.zeroCells z.cells n).toList) := by
  have hst := run_storeCells_cells (P := Tryz.prog) b o (Builtin.zeroCells z.cells n).toList 0 w (by simpa using hc) (by simpa using hf) h1
  simp only [Nat.add_zero] at hst
  obtain ⟨m, rfl⟩ : ∃ m, n = m + 1 := ⟨n - 1, by omega⟩
  simp [Builtin.clear_, run_underlying ht, hv, hst]
theorem wpList_clear {w : World} {ops : Array Oper} {rest : List Oper} {o : Oper} {a : Act} {Q : Exit → Act → World → Prop} (hgd : o.guard = none) (x : Operand) (t : TypeId)
    (ho : o.op = .call { callee := .builtin .clear, args := #[x], argTypes := #[t] }) (V : Value) (hx : a.eval x = V) (w' : World) (hrun : (Builtin.clear_ #[t] o.type #[V]).run Tryz.prog w = .ok (.tuple #[]) w')
    (h : wpList Tryz.prog ops Q rest (a.put o.dst (.tuple #[])) w') : wpList Tryz.prog ops Q (o :: rest) a w := by
  refine wpList_plain hgd fun _ hK => ?_
  unfold Oper.wp execOp
  simp only [ho, resolve, invoke, builtin, Sem.run_bind, Sem.run_pure, Result.andThen_ok, List.map_toArray, List.map_cons, List.map_nil, hx, hrun]
  exact hK _ _ h
theorem zero_entry (w : World) : (zeroValue 67).run Tryz.prog w = .ok (.agg #[.int .i64 0, .int .i64 0, .int .i64 0, .slice none 0 0]) w := by kernel_rfl
theorem zcells_len (z : Value) (n : Nat) : (Builtin.zeroCells z.cells n).toList.length = z.cells.size * n := by
  simp [Builtin.zeroCells, Nat.mul_comm]
/-- what the move and the clearing leave of a row: m entries from place i on, then zeros behind q = i + m -/
theorem del_end (g n cap i m lo : Nat) (xs : List EA) (news zs : List Value) (w wq : World) (cur : Array Value) (hcur : Blk wq g cur 67) (hg : lo ≤ g) (hnc : n ≤ cap) (hcm : cap ≤ maxLen) (hcs : cur.size = cap * 4) (hcu : cur.toList.take (n * 4) = rowE xs) (hl : xs.length = n) (j : Nat) (hij : i + m ≤ n) (hj : j + m = n) (hnews : news = (rowE xs).drop (j * 4)) (hzl : zs.length = 4 * (n - (i + m))) (hfr : Dk.Fr [g] w wq) :
    ((wq.setCells g (0 + i * 4) news).setCells g (0 + (i + m) * 4) zs).ownsRow lo 67 4 (.slice (some ⟨g, 0, none⟩) (i + m) cap) (i + m) (rowE (xs.take i ++ xs.drop j)) ∧ Dk.Fr [g] w ((wq.setCells g (0 + i * 4) news).setCells g (0 + (i + m) * 4) zs) := by
  have hnl : news.length = m * 4 := by rw [hnews, List.length_drop, rowE_len]; omega
  rw [Nat.zero_add, Nat.zero_add]
  obtain ⟨c1, b1, s1, o1, n1⟩ := setCells_blk g 67 news (i * 4) wq cur hcur (by omega)
  obtain ⟨c2, b2, s2, o2, n2⟩ := setCells_blk g 67 zs ((i + m) * 4) _ c1 b1 (by omega)
  refine ⟨⟨by rw [rowE_len, List.length_append, List.length_take, List.length_drop]; omega, .inr ⟨g, cap, c2, rfl, hg, b2, by omega, hcm, by omega, ?_⟩⟩, fr_setCells (.inl (by simp)) zs _ _ (fr_setCells (.inl (by simp)) news _ _ hfr)⟩
  apply List.ext_getElem?
  intro t
  rw [List.getElem?_take]
  split
  · next ht =>
    rw [Array.getElem?_toList, o2 t (.inl ht), rowE_append, rowE_take, rowE_drop]
    rcases Nat.lt_or_ge t (i * 4) with h | h
    · rw [o1 t (.inl h), List.getElem?_append_left (by rw [List.length_take, rowE_len]; omega), List.getElem?_take, if_pos h, ← hcu, List.getElem?_take, if_pos (by omega), Array.getElem?_toList]
    · have hl2 : ((rowE xs).take (i * 4)).length = i * 4 := by rw [List.length_take, rowE_len]; omega
      rw [List.getElem?_append_right (by omega), hl2, ← hnews, ← n1 (t - i * 4) (by omega), show i * 4 + (t - i * 4) = t by omega]
  · next ht =>
    rw [List.getElem?_eq_none]
    rw [rowE_len, List.length_append, List.length_take, List.length_drop]
    omega
end Go.Proofs.YtjadfpcipicckaaGreat.Rg

namespace Go.Proofs.YtjadfpcipicckaaGreat.Rg
open Go.RowKit Go.Proofs.YtjadfpcipicckaaGreat.Fld
set_option linter.unusedVariables false

/-- the program's log in memory -/
structure Im (lo : Nat) (w : World) (g : Nat) (s : St) (v : Value) (xs : List EA) : Prop where
  blk : Lb w g s.base s.bt v s.com s.app
  row : w.ownsRow lo 67 4 v xs.length (rowE xs)
  dat : DatO lo w xs
  es : ens xs = s.es
  lo : lo ≤ g
  ok : s.Ok
theorem Im.n {lo : Nat} {w : World} {g : Nat} {s : St} {v : Value} {xs : List EA} (h : Im lo w g s v xs) : s.es.length = xs.length := by rw [← h.es, ens_len]
theorem Im.slice {lo : Nat} {w : World} {g : Nat} {s : St} {v : Value} {xs : List EA} (h : Im lo w g s v xs) : ∃ A cap, v = .slice A xs.length cap ∧ Lo w g s A xs.length cap xs ∧ xs.length ≤ cap ∧ cap ≤ maxLen ∧ (A = none → cap = 0) ∧ (∀ a, A = some a → a.spot = none ∧ a.off = 0) := by
  obtain ⟨A, cap, rfl, h1, h2, h3, h4⟩ := row_slice h.row
  refine ⟨A, cap, rfl, ⟨h.blk, row_rdE h.row h.dat.dat, h.es, h.ok.b0, ?_⟩, h2, h3, fun h => (h4 h).1, h1⟩
  have := h.ok.bl
  unfold St.last at this
  rw [h.n] at this
  exact this
theorem Im.foot {lo : Nat} {w : World} {g : Nat} {s : St} {v : Value} {xs : List EA} (h : Im lo w g s v xs) : ∀ i ∈ g :: v.ownBlock.toList, lo ≤ i ∧ i < w.heap.size := by
  intro i hi
  simp only [List.mem_cons, Option.mem_toList] at hi
  rcases hi with rfl | hi
  · exact ⟨h.lo, Blk.lt h.blk⟩
  · exact row_lo h.row i hi
theorem mem_foot {g i : Nat} {v : Value} (h : v.ownBlock = some i) : i ∈ g :: v.ownBlock.toList := by rw [h]; simp
/-- no block of bytes is on the list -/
def Not8 (w : World) (S : List Nat) : Prop := ∀ i ∈ S, ∀ cs, ¬ Blk w i cs 5
theorem Blk.ne {w : World} {B B' : Nat} {cs cs' : Array Value} {ty ty' : TypeId} (h : Blk w B cs ty) (h' : Blk w B' cs' ty') (ht : ty ≠ ty') : B ≠ B' := by
  rintro rfl
  unfold Blk at h h'
  rw [h] at h'
  cases h'
  exact ht rfl
theorem Im.not8 {lo : Nat} {w : World} {g : Nat} {s : St} {v : Value} {xs : List EA} (h : Im lo w g s v xs) : Not8 w (g :: v.ownBlock.toList) := by
  intro i hi cs hb
  simp only [List.mem_cons, Option.mem_toList] at hi
  rcases hi with rfl | hi
  · exact Blk.ne h.blk hb (by decide) rfl
  · exact row_ne h.row hb (by decide) hi
theorem DatO.not8 {lo : Nat} {w w' : World} {xs : List EA} {S : List Nat} (h : DatO lo w xs) (hf : Dk.Fr S w w') (hs : Not8 w S) : DatO lo w' xs := by
  refine h.fr hf fun x hx i hi hm => ?_
  rcases (h x hx).2.2 with ⟨h1, _⟩ | ⟨q, cap, cur, hv, hg, hq, _⟩
  · rw [h1] at hi; cases hi
  · rw [hv] at hi
    cases hi
    exact hs q hm _ hq
theorem Im.fr {lo : Nat} {w w' : World} {g : Nat} {s : St} {v : Value} {xs : List EA} {S : List Nat} (h : Im lo w g s v xs) (hf : Dk.Fr S w w') (hg : ∀ i ∈ g :: v.ownBlock.toList, i ∉ S) (hs : Not8 w S) : Im lo w' g s v xs :=
  ⟨Blk.of h.blk (hf.block g (Blk.lt h.blk) (hg g (by simp))), row_of h.row (fun i hi => hf.block i (row_lo h.row i hi).2 (hg i (by simp [hi]))), h.dat.not8 hf hs, h.es, h.lo, h.ok⟩
theorem Im.below {lo : Nat} {w w' : World} {g : Nat} {s : St} {v : Value} {xs : List EA} (h : Im lo w g s v xs) (hb : Below w.heap.size w w') : Im lo w' g s v xs :=
  h.fr (S := []) (Dk.Fr.below hb) (fun i _ h => by simp at h) (fun i hi => by simp at hi)
theorem Im.still {lo : Nat} {w w' : World} {g : Nat} {s : St} {v : Value} {xs : List EA} (h : Im lo w g s v xs) (hs : Still w w') : Im lo w' g s v xs := h.below (below_still hs (Nat.le_refl _))
/-- other rows, and other places, in the log's block -/
theorem Im.stored {lo : Nat} {w w' : World} {g : Nat} {s' : St} {v' : Value} {zs : List EA} {base bt com app : Int} {v : Value} (hb : Lb w g base bt v com app) (hw : Lb w' g s'.base s'.bt v' s'.com s'.app) (hf : Dk.Fr [g] w w') (hr : w.ownsRow lo 67 4 v' zs.length (rowE zs)) (hd : DatO lo w zs) (he : ens zs = s'.es) (hlo : lo ≤ g) (ok : s'.Ok) : Im lo w' g s' v' zs := by
  have hr8 : Not8 w [g] := by
    intro i hi cs hbb
    simp only [List.mem_singleton] at hi
    subst hi
    exact Blk.ne hb hbb (by decide) rfl
  refine ⟨hw, row_of hr (fun i hi => hf.block i (row_lo hr i hi).2 (fun hm => ?_)), hd.not8 hf hr8, he, hlo, ok⟩
  simp only [List.mem_singleton] at hm
  subst hm
  exact row_ne hr hb (by decide) hi
/-- what a call leaves of a log -/
structure Done (lo : Nat) (w w' : World) (g : Nat) (v : Value) (s' : St) (v' : Value) (xs' : List EA) : Prop where
  im : Im lo w' g s' v' xs'
  fr : Dk.Fr (g :: v.ownBlock.toList) w w'
  at' : ∀ i, v'.ownBlock = some i → v.ownBlock = some i ∨ w.heap.size ≤ i
theorem Done.same {lo : Nat} {w w' : World} {g : Nat} {s : St} {v : Value} {xs : List EA} (h : Im lo w g s v xs) (hb : Below w.heap.size w w') : Done lo w w' g v s v xs := ⟨h.below hb, Dk.Fr.below hb, fun i hi => .inl hi⟩
theorem Done.then {lo : Nat} {w w1 w' : World} {g : Nat} {v v1 v' : Value} {s1 s' : St} {xs1 xs' : List EA} (h : Done lo w w1 g v s1 v1 xs1) (k : Done lo w1 w' g v1 s' v' xs') : Done lo w w' g v s' v' xs' := by
  refine ⟨k.im, h.fr.trans k.fr fun i hi => ?_, fun i hi => ?_⟩
  · simp only [List.mem_cons, Option.mem_toList] at hi ⊢
    rcases hi with rfl | hi
    · exact .inl (.inl rfl)
    · rcases h.at' i hi with h1 | h1
      · exact .inl (.inr h1)
      · exact .inr h1
  · rcases k.at' i hi with h1 | h1
    · exact h.at' i h1
    · have := h.fr.size; exact .inr (by omega)
theorem Done.to {lo : Nat} {w w1 w' : World} {g : Nat} {s : St} {v v' : Value} {s' : St} {xs xs' : List EA} (h : Im lo w g s v xs) (hb : Below w.heap.size w w1) (k : Done lo w1 w' g v s' v' xs') : Done lo w w' g v s' v' xs' := (Done.same h hb).then k

/-- entries were appended to a row of the log, and the row stored in the log -/
theorem appended {lo : Nat} {w5 w6 : World} {g m : Nat} {s' : St} {v0 vr v6 : Value} {xs ys : List EA} (hb : Lb w5 g s'.base s'.bt v0 s'.com s'.app) (hr : w5.ownsRow lo 67 4 vr xs.length (rowE xs)) (hd : DatO lo w5 xs) (hyd : DatO lo w5 ys) (hg : w5.grownBy w6 vr.ownBlock) (hr6 : w6.ownsRow lo 67 4 v6 (xs.length + m) (rowE xs ++ rowE ys)) (hm : ys.length = m) (he : ens xs ++ ens ys = s'.es) (hlo : lo ≤ g) (ok : s'.Ok) :
    Im lo (w6.setCell ⟨g, 2, none⟩ v6) g s' v6 (xs ++ ys) := by
  have hf : Dk.Fr vr.ownBlock.toList w5 w6 := (Dk.Fr.refl _ _).grown hg (fun i hi => .inl (by simp [hi]))
  have h8 : Not8 w5 vr.ownBlock.toList := by
    intro i hi cs hbb
    simp only [Option.mem_toList] at hi
    exact row_ne hr hbb (by decide) hi
  have hb6 : Lb w6 g s'.base s'.bt v0 s'.com s'.app := Blk.of hb (hf.block g (Blk.lt hb) (fun hm => by
    simp only [Option.mem_toList] at hm
    exact row_ne hr hb (by decide) hm))
  refine Im.stored hb6 (Blk.set hb6 2 v6 (by show 2 < 5; omega)) ((Dk.Fr.refl _ _).setCell _ (.inl (by simp)) _) ?_ ((hd.append hyd).not8 hf h8) (by rw [ens_append]; exact he) hlo ok
  rw [List.length_append, rowE_append, hm]
  exact hr6
theorem lb_grown {w5 w6 : World} {lo g : Nat} {base bt com app : Int} {v0 vr : Value} {n : Nat} {xs : List Value} (hb : Lb w5 g base bt v0 com app) (hr : w5.ownsRow lo 67 4 vr n xs) (hg : w5.grownBy w6 vr.ownBlock) : Lb w6 g base bt v0 com app :=
  Blk.of hb (hg.block g (Blk.lt hb) (fun h => row_ne hr hb (by decide) h.symm))
theorem new_ok (lo : Nat) (b t : Int) (w : World) (hlo : lo ≤ w.heap.size) (hb : okN b = true) (ht : okN t = true) : Calls Tryz.prog 17 #[.int .i64 b, .int .i64 t] w fun e w' => ∃ g, e = .returned (.tuple #[.pointer (some ⟨g, 0, none⟩), .int .i64 0]) ∧ w.heap.size ≤ g ∧ Im lo w' g (st0 b t) (.slice none 0 0) [] ∧ Below w.heap.size w w' := by
  have HE := Lib.hid (Blk.new w (lgC b t (.slice none 0 0) b b) 96)
  have HB := Lib.hid (alloc_below' w (.cells (lgC b t (.slice none 0 0) b b) 96))
  have HO := Lib.hid (st0_ok hb ht)
  go_enter Tryz.func17, Tryz.ntmps17
  go_wp2_with (go_at_call 41; refine (validIndex_any _ _).mono ?_; rintro e w' ⟨rfl, rfl⟩)
  go_ret2
  exact ⟨w.heap.size, rfl, Nat.le_refl _, ⟨HE.out, row_nil _ _ _ _, DatO.nil _ _, rfl, hlo, HO.out⟩, HB.out⟩
theorem new_bad (b t : Int) (w : World) (h : okN b = false ∨ okN t = false) : Calls Tryz.prog 17 #[.int .i64 b, .int .i64 t] w fun e w' => e = .returned (.tuple #[.pointer none, .int .i64 1]) ∧ w = w' := by
  cases hb : okN b with
  | false =>
    clear h
    go_enter Tryz.func17, Tryz.ntmps17
    go_wp2_with (go_at_call 41; refine (validIndex_any _ _).mono ?_; rintro e w' ⟨rfl, rfl⟩)
    go_ret2
    exact ⟨rfl, rfl⟩
  | true =>
    have ht : okN t = false := by rcases h with h | h; rw [hb] at h; cases h; exact h
    clear h
    go_enter Tryz.func17, Tryz.ntmps17
    go_wp2_with (go_at_call 41; refine (validIndex_any _ _).mono ?_; rintro e w' ⟨rfl, rfl⟩)
    go_ret2
    exact ⟨rfl, rfl⟩
set_option maxRecDepth 100000 in
set_option maxHeartbeats 3200000 in
theorem add_any (lo g : Nat) (s : St) (v : Value) (xs : List EA) (LA : Option Addr) (m c : Nat) (ls : List EA) (w : World) (h : Im lo w g s v xs) (hlo : lo ≤ w.heap.size) (hr : RdE w LA m ls) (hA : LA = none → c = 0) (hm : m ≤ 1000000) (hx : xs.length ≤ 1000000) :
    Calls Tryz.prog 18 #[.pointer (some ⟨g, 0, none⟩), .slice LA m c] w fun e w' => ∃ v' xs', e = .returned (.int .i64 (addC s (ens ls))) ∧ Done lo w w' g v (stAdd s (ens ls)) v' xs' := by
  obtain ⟨A, cap, rfl, hLo, hxc, hcm, hnil, hform⟩ := h.slice
  have HV := Lib.hid (allValid_any LA m c ls w hr)
  have HIM := Lib.hid h
  have HLO := Lib.hid hLo
  have HR := Lib.hid hr
  have HA := Lib.hid hA
  have hlen := h.n
  have HLEN := Lib.hid hlen
  have HOK := Lib.hid (stAdd_ok h.ok (ens ls))
  have hbl := h.ok.bl
  have hb0 := h.ok.b0
  have hcl : 0 ≤ s.last := by unfold St.last; omega
  clear h hr hA hLo hform hlen
  cases hv : okL (ens ls) with
  | false =>
    have HC := Lib.hid (show addC s (ens ls) = 1 by unfold addC; rw [if_neg (by rw [hv]; decide)])
    have HS := Lib.hid (show stAdd s (ens ls) = s by unfold stAdd; rw [if_neg (by rw [hv]; simp)])
    rw [hv] at HV
    clear hv
    go_enter Tryz.func18, Tryz.ntmps18
    go_wp2_with fail
    refine HV.out.mono ?_
    rintro e w1 ⟨rfl, hb1⟩
    have HB1 := Lib.hid hb1
    clear hb1
    go_wp2
    go_ret
    exact ⟨_, xs, by rw [HC.out]; rfl, by rw [HS.out]; exact Done.same HIM.out HB1.out⟩
  | true =>
    have HVT := Lib.hid hv
    rw [hv] at HV
    clear hv
    cases hf : fol (ens ls) s.last s.lt with
    | false =>
      have HC := Lib.hid (show addC s (ens ls) = 7 by unfold addC; rw [if_pos HVT.out, if_neg (by rw [hf]; decide)])
      have HS := Lib.hid (show stAdd s (ens ls) = s by unfold stAdd; rw [if_neg (by rw [hf]; simp)])
      have HF := Lib.hid hf
      clear hf
      go_enter Tryz.func18, Tryz.ntmps18
      go_wp2_with fail
      refine HV.out.mono ?_
      rintro e w1 ⟨rfl, hb1⟩
      have HB1 := Lib.hid hb1
      clear hb1
      go_wp2_with fail
      refine (HLO.out.below HB1.out).last_dr.mono ?_
      rintro e w2 ⟨rfl, hw2⟩
      have HS2 := Lib.hid (show Still w1 w2 by obtain ⟨k, rfl⟩ := hw2; exact still_drewN _ _)
      clear hw2
      go_wp2_with fail
      refine ((HLO.out.below HB1.out).still HS2.out).lastTerm_dr.mono ?_
      rintro e w3 ⟨rfl, hw3⟩
      have HS3 := Lib.hid (HS2.out.trans (show Still w2 w3 by obtain ⟨k, rfl⟩ := hw3; exact still_drewN _ _))
      clear hw3
      have HB3 := Lib.hid (HB1.out.trans (below_still HS3.out HB1.out.size))
      go_wp2_with fail
      refine (follow_any LA m c ls s.last s.lt _ (HR.out.below HB3.out) HVT.out (by omega) (by omega)).mono ?_
      rintro e w4 ⟨rfl, hb4⟩
      rw [HF.out]
      have HB4 := Lib.hid (HB3.out.trans (hb4.mono HB3.out.size))
      clear hb4
      go_wp2
      go_ret
      exact ⟨_, xs, by rw [HC.out]; rfl, by rw [HS.out]; exact Done.same HIM.out HB4.out⟩
    | true =>
      have HC := Lib.hid (show addC s (ens ls) = 0 by unfold addC; rw [if_pos HVT.out, if_pos hf])
      have HS := Lib.hid (show stAdd s (ens ls) = { s with es := s.es ++ ens ls } by unfold stAdd; rw [if_pos ⟨HVT.out, hf⟩])
      rw [HS.out] at HOK
      have HF := Lib.hid hf
      clear hf
      go_enter Tryz.func18, Tryz.ntmps18
      go_wp2_with fail
      refine HV.out.mono ?_
      rintro e w1 ⟨rfl, hb1⟩
      have HB1 := Lib.hid hb1
      clear hb1
      go_wp2_with fail
      refine (HLO.out.below HB1.out).last_dr.mono ?_
      rintro e w2 ⟨rfl, hw2⟩
      have HS2 := Lib.hid (show Still w1 w2 by obtain ⟨k, rfl⟩ := hw2; exact still_drewN _ _)
      clear hw2
      go_wp2_with fail
      refine ((HLO.out.below HB1.out).still HS2.out).lastTerm_dr.mono ?_
      rintro e w3 ⟨rfl, hw3⟩
      have HS3 := Lib.hid (HS2.out.trans (show Still w2 w3 by obtain ⟨k, rfl⟩ := hw3; exact still_drewN _ _))
      clear hw3
      have HB3 := Lib.hid (HB1.out.trans (below_still HS3.out HB1.out.size))
      go_wp2_with fail
      refine (follow_any LA m c ls s.last s.lt _ (HR.out.below HB3.out) HVT.out (by omega) (by omega)).mono ?_
      rintro e w4 ⟨rfl, hb4⟩
      rw [HF.out]
      have HB4 := Lib.hid (HB3.out.trans (hb4.mono HB3.out.size))
      clear hb4
      have HI4 := Lib.hid (HIM.out.below HB4.out)
      have HDL := Lib.hid (show ∀ x ∈ ls, x.e.data.length ≤ 140737488351232 from fun x hx => by
        have := (okE_iff _).1 (okL_mem HVT.out (e := x.e) (by unfold ens; exact List.mem_map_of_mem hx))
        omega)
      have HCP := Lib.hid (fun W (hW : Below w.heap.size w W) => copied_any LA m c ls W (HR.out.below hW) HA.out hm HDL.out)
      have c2 := (HI4.out.blk).cells.2.2.1
      go_wp2_with fail
      go_region_law ((first
        | (go_simp; go_at_call 45; go_loud (refine (HCP.out _ (by exact HB4.out.drew)).mono ?_; rintro e w5 ⟨v5, ys, rfl, hye, hyr, hyd, hyb⟩; obtain ⟨YA, yc, hv5, _, _, _, hyn⟩ := row_slice hyr; subst hv5; have HYE := Lib.hid hye; have HYR := Lib.hid hyr; have HYD := Lib.hid hyd; have HYN := Lib.hid hyn; have HI5 := Lib.hid (HI4.out.below (Below.trans (Below.refl _ _).drew (hyb))); have HB5 := Lib.hid (HB4.out.drew.trans (hyb.mono HB4.out.drew.size)); have d2 := (HI5.out.blk).cells.2.2.1; clear hye hyr hyd hyn hyb))
        | (refine step_append_rowE rfl _ _ rfl lo (.slice A xs.length cap) xs.length (rowE xs) rfl HI5.out.row YA m yc ys rfl (row_rdE HYR.out HYD.out.dat) (fun h => (HYN.out h).1) (by omega) (by have := HB5.out.size; omega) ?_; intro v6 w6 hr6 hg6 ha6; obtain ⟨VA, vc, hvv, _⟩ := row_slice hr6; subst hvv; have HR6 := Lib.hid hr6; have HG6 := Lib.hid hg6; have HA6 := Lib.hid ha6; have hl6 := lb_grown HI5.out.blk HI5.out.row hg6; have e2 := hl6.cells.2.2.1; have f2 := Blk.free hl6 2; clear hr6 hg6 ha6 hl6)))
      all_goals
        go_wp2
        go_ret
        have hyl : ys.length = m := by have := HYE.out; rw [← ens_len, this, ens_len]; exact HR.out.len
        refine ⟨.slice VA (xs.length + m) vc, xs ++ ys, by rw [HC.out]; rfl, ?_, ?_, ?_⟩
        · rw [HS.out]
          exact appended (s' := { s with es := s.es ++ ens ls }) HI5.out.blk HI5.out.row HI5.out.dat (HYD.out.lower (by have := HB4.out.size; show lo ≤ w4.heap.size; omega)) HG6.out HR6.out hyl (by rw [HI5.out.es, HYE.out]) HI5.out.lo HOK.out
        · exact ((Dk.Fr.below HB5.out).grown HG6.out (fun i hi => .inl (mem_foot hi))).setCell _ (.inl (by simp)) _
        · intro i hi
          rcases HA6.out with h | h
          · exact .inl (h.symm.trans hi)
          · rw [h] at hi
            cases hi
            exact .inr HB5.out.size
end Go.Proofs.YtjadfpcipicckaaGreat.Rg
