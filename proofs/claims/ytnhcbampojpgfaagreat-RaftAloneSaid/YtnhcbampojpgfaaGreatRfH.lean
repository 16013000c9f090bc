/-
  Layer 12, a node that is alone: a read is put behind those that are done; settled, ask, Read. Conditions: the node lies in memory.
-/
import Derived.Test.YtnhcbampojpgfaaGreatRfF
import Derived.Deep.RegionLaw
namespace Go.Proofs.YtnhcbampojpgfaaGreat.Rf
open Go.RowKit Go.Shelf Go.Proofs.YtnhcbampojpgfaaGreat.Fld
open Go.Proofs.YtnhcbampojpgfaaGreat.Qu (RdI)
set_option linter.unusedVariables false

theorem add0 (q j : Nat) : (⟨q, 0, none⟩ : Addr).add j = ⟨q, j, none⟩ := by
  unfold Addr.add
  split <;> simp_all
structure Ety (t e : TypeId) (size : Nat) : Prop where
  und : Tryz.prog.underlying t = some (.slice e)
  inf : ∃ (i : TypeInfo) (z : Value), Tryz.prog.info? e = some i ∧ i.zero = some z ∧ i.size = size ∧ z.cells.size = size ∧ i.bytes ≤ 64
  pos : 0 < size
theorem eread : Ety 52 77 2 := by
  refine ⟨Tryz.underlying52, ?_, by omega⟩
  have h : (Tryz.prog.info? 77).map (fun i => (i.zero, i.size, i.bytes)) = some (some (.agg #[.int .i64 0, .int .i64 0]), 2, 16) := by kernel_rfl
  cases hq : Tryz.prog.info? 77 with
  | none => simp [hq] at h
  | some i => simp [hq] at h; exact ⟨i, _, rfl, h.1, h.2.1, rfl, by omega⟩
theorem run_append1 {t e : TypeId} {size : Nat} (hE : Ety t e size) (w : World) (ty : TypeId) (lo : Nat) (v : Value) (n : Nat) (xs : List Value) (hown : w.ownsRow lo e size v n xs) (q : Nat) (c : Nat) (ys : List Value) (hl : ys.length = size) (hc : Rg.Blk w q ys.toArray e) (h1 : ∀ u ∈ ys, u.oneCell' = true) (hb : n ≤ 2000000) (hlo : lo ≤ w.heap.size) :
    ∃ v' w', (Builtin.append_ #[t, t] ty #[v, .slice (some ⟨q, 0, none⟩) 1 c]).run Tryz.prog w = .ok v' w' ∧ w'.ownsRow lo e size v' (n + 1) (xs ++ ys) ∧ w.grownBy w' v.ownBlock ∧ (v'.ownBlock = v.ownBlock ∨ v'.ownBlock = some w.heap.size) := by
  obtain ⟨i, z, i1, i2, i3, i4, i5⟩ := hE.inf
  obtain ⟨v', w', hrun, hrow, hg, _, hat⟩ := run_append_own_at (P := Tryz.prog) w lo t ty e i z size i.bytes hE.und i1 i2 i3 rfl i4 hE.pos v n xs hown ⟨q, 0, none⟩ 1 c ys (by omega) (by
    intro j u hu
    rw [add0]
    exact Rg.Blk.cell hc j u (by simpa using hu)) h1 (by unfold maxLen; omega) (by
      have : (n + 1) * i.bytes ≤ (2000000 + 1) * 64 := Nat.mul_le_mul (by omega) i5
      omega) hlo
  exact ⟨v', w', hrun, hrow, hg, hat⟩
theorem wpList_append1 {t e : TypeId} {size : Nat} (hE : Ety t e size) {w : World} {ops : Array Oper} {rest : List Oper} {o : Oper} {a : Act} {Q : Exit → Act → World → Prop} (hgd : o.guard = none) (s x : Operand)
    (ho : o.op = .call { callee := .builtin .append, args := #[s, x], argTypes := #[t, t] })
    (lo : Nat) (v : Value) (n : Nat) (xs : List Value) (hs : a.eval s = v) (hown : w.ownsRow lo e size v n xs)
    (q : Nat) (c : Nat) (ys : List Value) (hx : a.eval x = .slice (some ⟨q, 0, none⟩) 1 c) (hl : ys.length = size) (hc : Rg.Blk w q ys.toArray e) (h1 : ∀ u ∈ ys, u.oneCell' = true) (hb : n ≤ 2000000) (hlo : lo ≤ w.heap.size)
    (h : ∀ v' w', w'.ownsRow lo e size v' (n + 1) (xs ++ ys) → w.grownBy w' v.ownBlock → (v'.ownBlock = v.ownBlock ∨ v'.ownBlock = some w.heap.size) → wpList Tryz.prog ops Q rest (a.put o.dst v') w') : wpList Tryz.prog ops Q (o :: rest) a w := by
  obtain ⟨v', w', hrun, k1, k2, k3⟩ := run_append1 hE w o.type lo v n xs hown q c ys hl hc h1 hb hlo
  refine wpList_plain hgd fun K' hK' => ?_
  unfold Oper.wp execOp
  simp only [ho, resolve, invoke, builtin, Sem.run_bind, Sem.run_pure, Result.andThen_ok, List.map_toArray, List.map_cons, List.map_nil, hs, hx, hrun]
  exact hK' _ _ (h v' w' k1 k2 k3)
theorem step_append1 {t e : TypeId} {size : Nat} (hE : Ety t e size) {w : World} {ops : Array Oper} {o : Oper} {a : Act} {K : Act → World → Prop} {Q : Exit → Act → World → Prop} {E : Prop} (hgd : o.guard = none) (s x : Operand)
    (ho : o.op = .call { callee := .builtin .append, args := #[s, x], argTypes := #[t, t] })
    (lo : Nat) (v : Value) (n : Nat) (xs : List Value) (hs : a.eval s = v) (hown : w.ownsRow lo e size v n xs)
    (q : Nat) (c : Nat) (ys : List Value) (hx : a.eval x = .slice (some ⟨q, 0, none⟩) 1 c) (hl : ys.length = size) (hc : Rg.Blk w q ys.toArray e) (h1 : ∀ u ∈ ys, u.oneCell' = true) (hb : n ≤ 2000000) (hlo : lo ≤ w.heap.size)
    (h : ∀ v' w', w'.ownsRow lo e size v' (n + 1) (xs ++ ys) → w.grownBy w' v.ownBlock → (v'.ownBlock = v.ownBlock ∨ v'.ownBlock = some w.heap.size) → K (a.put o.dst v') w') :
    if Region.wanted o (yielded ops a.tmps) = true then Oper.wp Tryz.prog o a w K Q else E := by
  have hw : Region.wanted o (yielded ops a.tmps) = true := by simp [Region.wanted, hgd]
  rw [if_pos hw]
  obtain ⟨v', w', hrun, k1, k2, k3⟩ := run_append1 hE w o.type lo v n xs hown q c ys hl hc h1 hb hlo
  unfold Oper.wp execOp
  simp only [ho, resolve, invoke, builtin, Sem.run_bind, Sem.run_pure, Result.andThen_ok, List.map_toArray, List.map_cons, List.map_nil, hs, hx, hrun]
  exact h v' w' k1 k2 k3


theorem ndR_rv (b : PB) (s : AS) (v : Value) (l : List (Int × Int)) : (ndR b s).setIfInBounds 23 v = ndR { b with rv := v } { s with rd := l } := rfl
/-- one more read is done -/
theorem Al.read {lo : Nat} {w w6 : World} {b : PB} {s : AS} {v' : Value} {tok idx : Int} (h : Al lo w b s) (hg : w.grownBy w6 b.rv.ownBlock) (hr6 : w6.ownsRow lo 77 2 v' (s.rd.length + 1) (rowP s.rd ++ [.int .i64 tok, .int .i64 idx])) (hat : v'.ownBlock = b.rv.ownBlock ∨ v'.ownBlock = some w.heap.size) :
    Aft lo w (w6.setCell ⟨b.nb, 23, none⟩ v') b { b with rv := v' } { s with rd := s.rd ++ [(tok, idx)] } := by
  obtain ⟨n1, n2, n3, n4, n5, n6⟩ := h.nb_ne
  obtain ⟨m1, m2, m3, m4, m5, m6, m7⟩ := h.el_ne
  obtain ⟨l1, l2, l3, l4, l5, l6⟩ := h.lg_ne
  have hf6 : Dk.Fr b.rv.ownBlock.toList w w6 := (Dk.Fr.refl _ _).grown hg (fun i hi => .inl (by simp [hi]))
  have hlt := h.foot_lt
  have hlo0 : lo ≤ w.heap.size := Nat.le_trans (h.lo b.nb (mem_foot.2 (by simp))) (Nat.le_of_lt h.blk.lt)
  have kb : Rg.Blk w6 b.nb (ndR b s) 60 := (hf6.block _ h.blk.lt (by simpa using n5)).trans h.blk
  have hf : Dk.Fr (b.nb :: b.rv.ownBlock.toList) w (w6.setCell ⟨b.nb, 23, none⟩ v') := (hf6.mono (fun i hi => by simp [hi])).setCell _ (.inl (by simp)) _
  have nin : ∀ i, i ≠ b.nb → b.rv.ownBlock ≠ some i → i ∉ b.nb :: b.rv.ownBlock.toList := fun i h1 h2 hm => by
    simp only [List.mem_cons, Option.mem_toList] at hm
    exact hm.elim h1 h2
  have nro : ∀ i ∈ b.ro, i ∉ b.nb :: b.rv.ownBlock.toList := fun i hi => nin i (fun e => h.ro i hi (mem_foot.2 (.inl e))) (fun e => h.ro i hi (mem_foot.2 (by simp [e])))
  have h8 : Rg.Not8 w (b.nb :: b.rv.ownBlock.toList) := by
    intro i hi cs hb
    simp only [List.mem_cons, Option.mem_toList] at hi
    rcases hi with rfl | hi
    · exact Rg.Blk.ne h.blk hb (by decide) rfl
    · exact Rg.row_ne h.rv hb (by decide) hi
  have hfo : ∀ i, i ∈ ({ b with rv := v' } : PB).foot → i ∈ b.foot ∨ w.heap.size ≤ i := by
    intro i hi
    rcases mem_foot.1 hi with h1 | h1 | h1 | h1 | h1 | h1 | h1
    · exact .inl (mem_foot.2 (by simp [show i = b.nb from h1]))
    · exact .inl (mem_foot.2 (by simp [show i = b.p.g from h1]))
    · exact .inl (mem_foot.2 (by simp [show i = b.p.b from h1]))
    · exact .inl (mem_foot.2 (by simp [show i = b.g from h1]))
    · exact .inl (mem_foot.2 (by simp [show b.v.ownBlock = some i from h1]))
    · rcases hat with h2 | h2
      · exact .inl (mem_foot.2 (by simp [show b.rv.ownBlock = some i by rw [← h2]; exact h1]))
      · have : some w.heap.size = some i := h2.symm.trans h1
        exact .inr (by cases this; omega)
    · exact .inl (mem_foot.2 (by simp [show b.pm = some i from h1]))
  have hrn : v'.ownBlock ≠ some b.nb := Rg.row_ne hr6 kb (by decide)
  refine ⟨⟨?_, h.el.fr hf (fun i hi => ?_), h.lg.fr hf (fun i hi => ?_) h8, El.rdI_fr h.sv hf (fun a ha => nro _ (mem_ro.2 (.inr (.inr ⟨a, ha, rfl⟩)))), ?_, fun m hm => (h.pm m hm).of (hf.block m (hlt m (mem_foot.2 (by simp [show b.pm = some m from hm]))) (nin _ (fun e => n6 (by rw [← e]; exact hm)) (fun e => l6 m e hm))), h.pmb, ?_, ?_, h.vs, h.ls, fun i hi => Nat.lt_of_lt_of_le (h.rl i hi) hf.size, h.kind, h.win, h.sI, h.slz, h.few⟩, hf.mono (fun i hi => ?_), hfo, fun i hi => .inl hi, rfl⟩
  · rw [← ndR_rv b s v' (s.rd ++ [(tok, idx)])]
    exact Rg.Blk.set kb 23 v' (by show 23 < 27; omega)
  · simp only [El.Pl.all, List.mem_cons, List.mem_append, Option.mem_toList, Option.map_eq_some_iff] at hi
    rcases hi with (rfl | rfl | ⟨a, ha, rfl⟩) | ⟨a, ha, rfl⟩
    · exact nin _ (Ne.symm n1) m3
    · exact nin _ (Ne.symm n2) m7
    · exact nro _ (mem_ro.2 (.inl ⟨a, ha, rfl⟩))
    · exact nro _ (mem_ro.2 (.inr (.inl ⟨a, ha, rfl⟩)))
  · simp only [List.mem_cons, Option.mem_toList] at hi
    rcases hi with rfl | hi
    · exact nin _ (Ne.symm n3) l2
    · exact nin _ (fun e => n4 (by rw [← e]; exact hi)) (l4 _ hi)
  · have e1 : (s.rd ++ [(tok, idx)]).length = s.rd.length + 1 := by simp
    have e2 : rowP (s.rd ++ [(tok, idx)]) = rowP s.rd ++ [.int .i64 tok, .int .i64 idx] := by rw [rowP_append]; rfl
    show (w6.setCell ⟨b.nb, 23, none⟩ v').ownsRow lo 77 2 v' (s.rd ++ [(tok, idx)]).length (rowP (s.rd ++ [(tok, idx)]))
    rw [e1, e2]
    exact Rg.row_of hr6 (fun i hi => Below.heap_setCell _ _ _ _ (fun e => hrn (by rw [hi]; exact congrArg some e)))
  · intro i hi
    rcases hfo i hi with h1 | h1
    · exact h.lo i h1
    · omega
  · intro i hi hm
    have hi' : i ∈ b.ro := hi
    rcases hfo i hm with h1 | h1
    · exact h.ro i hi' h1
    · have := h.rl i hi'; omega
  · simp only [List.mem_cons, Option.mem_toList] at hi
    rcases hi with rfl | hi
    · exact mem_foot.2 (by simp)
    · exact mem_foot.2 (by simp [hi])
end Go.Proofs.YtnhcbampojpgfaaGreat.Rf
