/-
  Layer 10, the laws' world in memory: rows that grow by one element, the world's block, its rows, its nodes. Conditions: as each theorem states.
-/
import Derived.Test.YtjajgjpkiofhmaaElOnM
import Derived.Test.YtjajgjpkiofhmaaElAw
namespace Go.Proofs.Ytjajgjpkiofhmaa.El
open Go.RowKit Go.Proofs.Ytjajgjpkiofhmaa.Qu Go.Proofs.Ytjajgjpkiofhmaa.Fld
set_option linter.unusedVariables false

/-! ### append of one element -/
structure Ety (t e : TypeId) (size : Nat) : Prop where
  und : Try.prog.underlying t = some (.slice e)
  inf : ∃ (i : TypeInfo) (z : Value), Try.prog.info? e = some i ∧ i.zero = some z ∧ i.size = size ∧ z.cells.size = size ∧ i.bytes ≤ 64
  pos : 0 < size
theorem eptr : Ety 58 31 1 := by
  refine ⟨Try.underlying58, ?_, by omega⟩
  have h : (Try.prog.info? 31).map (fun i => (i.zero, i.size, i.bytes)) = some (some (.pointer none), 1, 8) := by kernel_rfl
  cases hq : Try.prog.info? 31 with
  | none => simp [hq] at h
  | some i => simp [hq] at h; exact ⟨i, _, rfl, h.1, h.2.1, rfl, by omega⟩
theorem epair : Ety 54 38 2 := by
  refine ⟨Try.underlying54, ?_, by omega⟩
  have h : (Try.prog.info? 38).map (fun i => (i.zero, i.size, i.bytes)) = some (some (.agg #[.int .i64 0, .int .i64 0]), 2, 16) := by kernel_rfl
  cases hq : Try.prog.info? 38 with
  | none => simp [hq] at h
  | some i => simp [hq] at h; exact ⟨i, _, rfl, h.1, h.2.1, rfl, by omega⟩
theorem ehard : Ety 59 23 2 := by
  refine ⟨Try.underlying59, ?_, by omega⟩
  have h : (Try.prog.info? 23).map (fun i => (i.zero, i.size, i.bytes)) = some (some (.agg #[.int .i64 0, .int .i64 0]), 2, 16) := by kernel_rfl
  cases hq : Try.prog.info? 23 with
  | none => simp [hq] at h
  | some i => simp [hq] at h; exact ⟨i, _, rfl, h.1, h.2.1, rfl, by omega⟩
theorem eint : Ety 24 3 1 := by
  refine ⟨Try.underlying24, ?_, by omega⟩
  have h : (Try.prog.info? 3).map (fun i => (i.zero, i.size, i.bytes)) = some (some (.int .i64 0), 1, 8) := by kernel_rfl
  cases hq : Try.prog.info? 3 with
  | none => simp [hq] at h
  | some i => simp [hq] at h; exact ⟨i, _, rfl, h.1, h.2.1, rfl, by omega⟩
theorem run_append1 {t e : TypeId} {size : Nat} (hE : Ety t e size) (w : World) (ty : TypeId) (lo : Nat) (v : Value) (n : Nat) (xs : List Value) (hown : w.ownsRow lo e size v n xs) (q : Nat) (c : Nat) (ys : List Value) (hl : ys.length = size) (hc : Blk w q ys.toArray e) (h1 : ∀ u ∈ ys, u.oneCell' = true) (hb : n ≤ 2000000) (hlo : lo ≤ w.heap.size) :
    ∃ v' w', (Builtin.append_ #[t, t] ty #[v, .slice (some ⟨q, 0, none⟩) 1 c]).run Try.prog w = .ok v' w' ∧ w'.ownsRow lo e size v' (n + 1) (xs ++ ys) ∧ w.grownBy w' v.ownBlock ∧ (v'.ownBlock = v.ownBlock ∨ v'.ownBlock = some w.heap.size) := by
  obtain ⟨i, z, i1, i2, i3, i4, i5⟩ := hE.inf
  obtain ⟨v', w', hrun, hrow, hg, _, hat⟩ := run_append_own_at (P := Try.prog) w lo t ty e i z size i.bytes hE.und i1 i2 i3 rfl i4 hE.pos v n xs hown ⟨q, 0, none⟩ 1 c ys (by omega) (by
    intro j u hu
    rw [addB, Nat.zero_add]
    exact Blk.cell hc j u (by simpa using hu)) h1 (by unfold maxLen; omega) (by
      have : (n + 1) * i.bytes ≤ (2000000 + 1) * 64 := Nat.mul_le_mul (by omega) i5
      omega) hlo
  exact ⟨v', w', hrun, hrow, hg, hat⟩
theorem wpList_append1 {t e : TypeId} {size : Nat} (hE : Ety t e size) {w : World} {ops : Array Oper} {rest : List Oper} {o : Oper} {a : Act} {Q : Exit → Act → World → Prop} (hgd : o.guard = none) (s x : Operand)
    (ho : o.op = .call { callee := .builtin .append, args := #[s, x], argTypes := #[t, t] })
    (lo : Nat) (v : Value) (n : Nat) (xs : List Value) (hs : a.eval s = v) (hown : w.ownsRow lo e size v n xs)
    (q : Nat) (c : Nat) (ys : List Value) (hx : a.eval x = .slice (some ⟨q, 0, none⟩) 1 c) (hl : ys.length = size) (hc : Blk w q ys.toArray e) (h1 : ∀ u ∈ ys, u.oneCell' = true) (hb : n ≤ 2000000) (hlo : lo ≤ w.heap.size)
    (h : ∀ v' w', w'.ownsRow lo e size v' (n + 1) (xs ++ ys) → w.grownBy w' v.ownBlock → (v'.ownBlock = v.ownBlock ∨ v'.ownBlock = some w.heap.size) → wpList Try.prog ops Q rest (a.put o.dst v') w') : wpList Try.prog ops Q (o :: rest) a w := by
  obtain ⟨v', w', hrun, k1, k2, k3⟩ := run_append1 hE w o.type lo v n xs hown q c ys hl hc h1 hb hlo
  refine wpList_plain hgd fun K' hK' => ?_
  unfold Oper.wp execOp
  simp only [ho, resolve, invoke, builtin, Sem.run_bind, Sem.run_pure, Result.andThen_ok, List.map_toArray, List.map_cons, List.map_nil, hs, hx, hrun]
  exact hK' _ _ (h v' w' k1 k2 k3)
theorem step_append1 {t e : TypeId} {size : Nat} (hE : Ety t e size) {w : World} {ops : Array Oper} {o : Oper} {a : Act} {K : Act → World → Prop} {Q : Exit → Act → World → Prop} {E : Prop} (hgd : o.guard = none) (s x : Operand)
    (ho : o.op = .call { callee := .builtin .append, args := #[s, x], argTypes := #[t, t] })
    (lo : Nat) (v : Value) (n : Nat) (xs : List Value) (hs : a.eval s = v) (hown : w.ownsRow lo e size v n xs)
    (q : Nat) (c : Nat) (ys : List Value) (hx : a.eval x = .slice (some ⟨q, 0, none⟩) 1 c) (hl : ys.length = size) (hc : Blk w q ys.toArray e) (h1 : ∀ u ∈ ys, u.oneCell' = true) (hb : n ≤ 2000000) (hlo : lo ≤ w.heap.size)
    (h : ∀ v' w', w'.ownsRow lo e size v' (n + 1) (xs ++ ys) → w.grownBy w' v.ownBlock → (v'.ownBlock = v.ownBlock ∨ v'.ownBlock = some w.heap.size) → K (a.put o.dst v') w') :
    if Region.wanted o (yielded ops a.tmps) = true then Oper.wp Try.prog o a w K Q else E := by
  have hw : Region.wanted o (yielded ops a.tmps) = true := by simp [Region.wanted, hgd]
  rw [if_pos hw]
  obtain ⟨v', w', hrun, k1, k2, k3⟩ := run_append1 hE w o.type lo v n xs hown q c ys hl hc h1 hb hlo
  unfold Oper.wp execOp
  simp only [ho, resolve, invoke, builtin, Sem.run_bind, Sem.run_pure, Result.andThen_ok, List.map_toArray, List.map_cons, List.map_nil, hs, hx, hrun]
  exact h v' w' k1 k2 k3

/-! ### rows -/
theorem rows_ne {w : World} {lo lo' n n' s s' : Nat} {e e' : TypeId} {v v' : Value} {xs xs' : List Value} (h : w.ownsRow lo e s v n xs) (h' : w.ownsRow lo' e' s' v' n' xs') (he : e ≠ e') : ∀ i, v.ownBlock = some i → v'.ownBlock ≠ some i := by
  intro i hi hi'
  rcases h.2 with ⟨rfl, _⟩ | ⟨g, cap, cur, rfl, _, hg, _⟩
  · cases hi
  rcases h'.2 with ⟨rfl, _⟩ | ⟨g', cap', cur', rfl, _, hg', _⟩
  · cases hi'
  · cases hi; cases hi'
    rw [hg] at hg'
    cases hg'
    exact he rfl
theorem row_nm {w : World} {lo n s b : Nat} {e : TypeId} {v : Value} {xs : List Value} {am : Int → Int} (h : w.ownsRow lo e s v n xs) (hm : MapA w b am) : v.ownBlock ≠ some b := by
  intro hi
  rcases h.2 with ⟨rfl, _⟩ | ⟨g, cap, cur, rfl, _, hg, _⟩
  · cases hi
  · cases hi
    obtain ⟨D, ⟨es, clock, h1, _⟩, _⟩ := hm
    rw [hg] at h1
    cases h1
def rowP (l : List (Int × Int)) : List Value := l.flatMap fun x => [.int .i64 x.1, .int .i64 x.2]
theorem rowP_append (a b : List (Int × Int)) : rowP (a ++ b) = rowP a ++ rowP b := by simp [rowP]
theorem rowP_one (x : Int × Int) : rowP [x] = [.int .i64 x.1, .int .i64 x.2] := rfl
theorem rowP_cell (l : List (Int × Int)) : ∀ u ∈ rowP l, u.oneCell' = true := by
  intro u hu
  simp only [rowP, List.mem_flatMap] at hu
  obtain ⟨x, _, hx⟩ := hu
  simp at hx
  rcases hx with rfl | rfl <;> rfl
theorem rowP_at : ∀ (a : List (Int × Int)) (k : Nat), k < a.length → (rowP a)[k * 2]? = some (.int .i64 (a.getD k (0, 0)).1) ∧ (rowP a)[k * 2 + 1]? = some (.int .i64 (a.getD k (0, 0)).2)
  | [], k, h => by simp at h
  | x :: a, 0, h => by simp [rowP]
  | x :: a, k + 1, h => by
    obtain ⟨h1, h2⟩ := rowP_at a k (by simp at h; omega)
    have e : rowP (x :: a) = .int .i64 x.1 :: .int .i64 x.2 :: rowP a := rfl
    have e1 : (k + 1) * 2 = k * 2 + 1 + 1 := by omega
    rw [e, e1]
    simp only [List.getElem?_cons_succ, List.getD_cons_succ]
    exact ⟨h1, h2⟩
/-- a row's elements at some place -/
theorem row_form {w : World} {lo n s : Nat} {e : TypeId} {v : Value} {xs : List Value} (h : w.ownsRow lo e s v n xs) : ∃ A c, v = .slice A n c ∧ (A = none → c = 0 ∧ n = 0) ∧ n ≤ maxLen ∧ ∀ a, A = some a → ∃ b off, a = ⟨b, off, none⟩ ∧ off = 0 ∧ v.ownBlock = some b ∧ (∀ j u, xs[j]? = some u → w.cell? ⟨b, off + j, none⟩ = some u) := by
  rcases h.2 with ⟨rfl, h0⟩ | ⟨g, cap, cur, rfl, hg, hh, h4, h5, h6, h7⟩
  · subst h0
    exact ⟨none, 0, rfl, fun _ => ⟨rfl, rfl⟩, by unfold maxLen; omega, fun a ha => by cases ha⟩
  · refine ⟨_, cap, rfl, (fun h => by cases h), by omega, fun a ha => ?_⟩
    cases ha
    refine ⟨g, 0, rfl, rfl, rfl, fun j u hj => ?_⟩
    rw [Nat.zero_add]
    exact (row_cells h j u hj).1

/-! ### the world -/
structure Wl where
  g : Nat
  vv : Value
  nv : Value
  lv : Value
  sv : Value
  dv : Value
  ps : List Pl
def p00 : Pl := ⟨0, 0, none, 0, none, 0⟩
def Wl.p (u : Wl) (i : Nat) : Pl := u.ps.getD i p00
def wdC (u : Wl) : Array Value := #[u.vv, .slice none 0 0, u.nv, u.lv, u.sv, u.dv]
def ptrs (ps : List Pl) : List Value := ps.map fun p => .pointer (some ⟨p.g, 0, none⟩)
theorem ptrs_snoc (ps : List Pl) (p : Pl) : ptrs (ps ++ [p]) = ptrs ps ++ [.pointer (some ⟨p.g, 0, none⟩)] := by simp [ptrs]
theorem ptrs_at (u : Wl) (k : Nat) (h : k < u.ps.length) : (ptrs u.ps)[k]? = some (.pointer (some ⟨(u.p k).g, 0, none⟩)) := by simp [ptrs, Wl.p, h]
structure Wm (w0 : World) (vs : List Int) (w : World) (u : Wl) (d : Wd) : Prop where
  blk : Blk w u.g (wdC u) 61
  rv : w.ownsRow w0.heap.size 3 1 u.vv vs.length (vI vs)
  rn : w.ownsRow w0.heap.size 31 1 u.nv u.ps.length (ptrs u.ps)
  rl : w.ownsRow w0.heap.size 38 2 u.lv d.logs.length (rowP d.logs)
  rs : w.ownsRow w0.heap.size 40 7 u.sv d.sent.length (rowB d.sent)
  rd : w.ownsRow w0.heap.size 23 2 u.dv d.leads.length (rowP d.leads)
  pl : u.ps.length = d.ns.length
  im : ∀ i, i < d.ns.length → Im w (u.p i) (nd d i)
  lt : ∀ i, i < d.ns.length → ∀ x ∈ (u.p i).all, w0.heap.size ≤ x ∧ x < w.heap.size
  dis : ∀ i, i < d.ns.length → ∀ x ∈ (u.p i).all, x ≠ u.g ∧ u.nv.ownBlock ≠ some x ∧ u.sv.ownBlock ≠ some x ∧ u.dv.ownBlock ≠ some x
  sep : ∀ i j, i < d.ns.length → j < d.ns.length → i ≠ j → ∀ x ∈ (u.p i).all, x ∉ (u.p j).ft
  gb : w0.heap.size ≤ u.g
  bel : Below w0.heap.size w0 w
theorem ft_all {p : Pl} {i : Nat} (h : i ∈ p.ft) : i ∈ p.all := by
  simp only [Pl.ft, Pl.all, List.mem_cons, List.not_mem_nil, or_false] at h ⊢
  rcases h with rfl | rfl <;> simp
theorem row_fr {S : List Nat} {w w' : World} {lo n s : Nat} {e : TypeId} {v : Value} {xs : List Value} (h : w.ownsRow lo e s v n xs) (hf : Dk.Fr S w w') (hd : ∀ i, v.ownBlock = some i → i ∉ S) : w'.ownsRow lo e s v n xs := row_of h fun i hi => hf.block i (row_lo h i hi).2 (hd i hi)
/-- what stays where blocks are written that are no node's -/
theorem Wm.rest {S : List Nat} {w0 : World} {vs : List Int} {w W : World} {u : Wl} {d : Wd} (h : Wm w0 vs w u d) (hf : Dk.Fr S w W) (hS : ∀ x ∈ S, x = u.g ∨ u.nv.ownBlock = some x ∨ u.sv.ownBlock = some x ∨ u.dv.ownBlock = some x) :
    W.ownsRow w0.heap.size 3 1 u.vv vs.length (vI vs) ∧ W.ownsRow w0.heap.size 38 2 u.lv d.logs.length (rowP d.logs) ∧ (∀ i, i < d.ns.length → Im W (u.p i) (nd d i)) ∧ Below w0.heap.size w0 W := by
  refine ⟨row_fr h.rv hf fun i hi hm => ?_, row_fr h.rl hf fun i hi hm => ?_, fun i hi => (h.im i hi).fr hf fun x hx hm => ?_, Dk.Fr.to_below h.bel hf fun x hm => ?_⟩
  · rcases hS i hm with rfl | e | e | e
    · exact row_ne h.rv h.blk (by decide) hi
    · exact rows_ne h.rv h.rn (by decide) i hi e
    · exact rows_ne h.rv h.rs (by decide) i hi e
    · exact rows_ne h.rv h.rd (by decide) i hi e
  · rcases hS i hm with rfl | e | e | e
    · exact row_ne h.rl h.blk (by decide) hi
    · exact rows_ne h.rl h.rn (by decide) i hi e
    · exact rows_ne h.rl h.rs (by decide) i hi e
    · exact rows_ne h.rl h.rd (by decide) i hi e
  · have := h.dis i hi x hx
    rcases hS x hm with e | e | e | e
    · exact this.1 e
    · exact this.2.1 e
    · exact this.2.2.1 e
    · exact this.2.2.2 e
  · rcases hS x hm with rfl | e | e | e
    · exact h.gb
    · exact (row_lo h.rn x e).1
    · exact (row_lo h.rs x e).1
    · exact (row_lo h.rd x e).1
theorem Wm.below {w0 : World} {vs : List Int} {w W : World} {u : Wl} {d : Wd} (h : Wm w0 vs w u d) (hb : Below w.heap.size w W) : Wm w0 vs W u d := by
  obtain ⟨r1, r2, r3, r4⟩ := h.rest (S := []) (Dk.Fr.below hb) (fun x hx => by cases hx)
  have hf : Dk.Fr [] w W := Dk.Fr.below hb
  exact ⟨h.blk.below hb, r1, row_fr h.rn hf (fun i _ hm => by cases hm), r2, row_fr h.rs hf (fun i _ hm => by cases hm), row_fr h.rd hf (fun i _ hm => by cases hm), h.pl, r3, fun i hi x hx => ⟨(h.lt i hi x hx).1, Nat.lt_of_lt_of_le (h.lt i hi x hx).2 hb.size⟩, h.dis, h.sep, h.gb, r4⟩
/-- a node does something -/
theorem Wm.did {w0 : World} {vs : List Int} {w W : World} {u : Wl} {d : Wd} (h : Wm w0 vs w u d) (k : Nat) (hk : k < d.ns.length) {s' : St} (hd : Did w W (u.p k) s') : Wm w0 vs W u { d with ns := d.ns.set k s' } := by
  have hf := hd.fr
  have hi := h.im k hk
  have hrow : ∀ {e : TypeId} {s n : Nat} {v : Value} {xs : List Value}, w.ownsRow w0.heap.size e s v n xs → e ≠ 76 → ∀ i, v.ownBlock = some i → i ∉ (u.p k).ft := by
    intro e s n v xs hr hne i he hm
    simp only [Pl.ft, List.mem_cons, List.not_mem_nil, or_false] at hm
    rcases hm with rfl | rfl
    · exact row_ne hr hi.blk hne he
    · exact row_nm hr hi.map he
  have hg : u.g ∉ (u.p k).ft := fun hm => (h.dis k hk _ (ft_all hm)).1 rfl
  have hlen : (d.ns.set k s').length = d.ns.length := by simp
  refine ⟨(hf.block _ (Blk.lt h.blk) hg).trans h.blk, row_fr h.rv hf (hrow h.rv (by decide)), row_fr h.rn hf (hrow h.rn (by decide)), row_fr h.rl hf (hrow h.rl (by decide)), row_fr h.rs hf (hrow h.rs (by decide)), row_fr h.rd hf (hrow h.rd (by decide)), by rw [hlen]; exact h.pl, fun i hi' => ?_, fun i hi' x hx => ?_, fun i hi' => h.dis i (by rw [hlen] at hi'; exact hi'), fun i j hi' hj' => h.sep i j (by rw [hlen] at hi'; exact hi') (by rw [hlen] at hj'; exact hj'), h.gb, Dk.Fr.to_below h.bel hf fun x hm => (h.lt k hk x (ft_all hm)).1⟩
  · rw [hlen] at hi'
    rw [nd_set d.ns d.logs d.sent d.leads k s' i hk]
    by_cases e : i = k
    · rw [if_pos e, e]; exact hd.im
    · rw [if_neg e]
      exact (h.im i hi').fr hf (fun x hx => h.sep i k hi' hk e x hx)
  · rw [hlen] at hi'
    exact ⟨(h.lt i hi' x hx).1, Nat.lt_of_lt_of_le (h.lt i hi' x hx).2 hf.size⟩
/-- ballots are sent: the row has grown, the world's cell is written -/
theorem Wm.send {w0 : World} {vs : List Int} {w W : World} {u : Wl} {d : Wd} (h : Wm w0 vs w u d) {v : Value} {n : Nat} {ys : List Bal} (hn : n = ys.length) (hr : W.ownsRow w0.heap.size 40 7 v (d.sent.length + n) (rowB d.sent ++ rowB ys)) (hg : w.grownBy W u.sv.ownBlock) (ha : v.ownBlock = u.sv.ownBlock ∨ v.ownBlock = some w.heap.size) :
    Wm w0 vs (W.setCell ⟨u.g, 4, none⟩ v) { u with sv := v } { d with sent := d.sent ++ ys } := by
  have hf : Dk.Fr (u.g :: u.sv.ownBlock.toList) w (W.setCell ⟨u.g, 4, none⟩ v) := ((Dk.Fr.refl _ w).grown hg (fun i hi => .inl (by simp [hi]))).setCell _ (.inl (by simp)) _
  have hS : ∀ x ∈ u.g :: u.sv.ownBlock.toList, x = u.g ∨ u.nv.ownBlock = some x ∨ u.sv.ownBlock = some x ∨ u.dv.ownBlock = some x := fun x hx => by
    simp only [List.mem_cons, Option.mem_toList] at hx
    rcases hx with rfl | hx
    · exact .inl rfl
    · exact .inr (.inr (.inl hx))
  obtain ⟨r1, r2, r3, r4⟩ := h.rest hf hS
  have hB : Blk W u.g (wdC u) 61 := (hg.block _ (Blk.lt h.blk) (row_ne h.rs h.blk (by decide)).symm).trans h.blk
  have hvg : v.ownBlock ≠ some u.g := row_ne hr hB (by decide)
  have hvl : ∀ x, x < w.heap.size → u.sv.ownBlock ≠ some x → v.ownBlock ≠ some x := fun x hx hs he => by
    rcases ha with e | e
    · exact hs (by rw [← e]; exact he)
    · rw [e] at he; cases he; omega
  refine ⟨Blk.set hB 4 v (by show 4 < 6; omega), r1, row_fr h.rn hf fun i hi hm => ?_, r2, ?_, row_fr h.rd hf fun i hi hm => ?_, h.pl, r3, fun i hi x hx => ⟨(h.lt i hi x hx).1, Nat.lt_of_lt_of_le (h.lt i hi x hx).2 hf.size⟩, fun i hi x hx => ?_, h.sep, h.gb, r4⟩
  · simp only [List.mem_cons, Option.mem_toList] at hm
    rcases hm with rfl | hm
    · exact row_ne h.rn h.blk (by decide) hi
    · exact rows_ne h.rn h.rs (by decide) i hi hm
  · rw [List.length_append, rowB_append, ← hn]
    exact row_of hr fun i hi => Below.heap_setCell _ _ _ _ (fun e => hvg (by rw [hi, e]))
  · simp only [List.mem_cons, Option.mem_toList] at hm
    rcases hm with rfl | hm
    · exact row_ne h.rd h.blk (by decide) hi
    · exact rows_ne h.rd h.rs (by decide) i hi hm
  · obtain ⟨d1, d2, d3, d4⟩ := h.dis i hi x hx
    exact ⟨d1, d2, hvl x (h.lt i hi x hx).2 d3, d4⟩
/-- a leader is known -/
theorem Wm.lead {w0 : World} {vs : List Int} {w W : World} {u : Wl} {d : Wd} (h : Wm w0 vs w u d) {v : Value} {y : Int × Int} (hr : W.ownsRow w0.heap.size 23 2 v (d.leads.length + 1) (rowP d.leads ++ rowP [y])) (hg : w.grownBy W u.dv.ownBlock) (ha : v.ownBlock = u.dv.ownBlock ∨ v.ownBlock = some w.heap.size) :
    Wm w0 vs (W.setCell ⟨u.g, 5, none⟩ v) { u with dv := v } { d with leads := d.leads ++ [y] } := by
  have hf : Dk.Fr (u.g :: u.dv.ownBlock.toList) w (W.setCell ⟨u.g, 5, none⟩ v) := ((Dk.Fr.refl _ w).grown hg (fun i hi => .inl (by simp [hi]))).setCell _ (.inl (by simp)) _
  have hS : ∀ x ∈ u.g :: u.dv.ownBlock.toList, x = u.g ∨ u.nv.ownBlock = some x ∨ u.sv.ownBlock = some x ∨ u.dv.ownBlock = some x := fun x hx => by
    simp only [List.mem_cons, Option.mem_toList] at hx
    rcases hx with rfl | hx
    · exact .inl rfl
    · exact .inr (.inr (.inr hx))
  obtain ⟨r1, r2, r3, r4⟩ := h.rest hf hS
  have hB : Blk W u.g (wdC u) 61 := (hg.block _ (Blk.lt h.blk) (row_ne h.rd h.blk (by decide)).symm).trans h.blk
  have hvg : v.ownBlock ≠ some u.g := row_ne hr hB (by decide)
  have hvl : ∀ x, x < w.heap.size → u.dv.ownBlock ≠ some x → v.ownBlock ≠ some x := fun x hx hs he => by
    rcases ha with e | e
    · exact hs (by rw [← e]; exact he)
    · rw [e] at he; cases he; omega
  refine ⟨Blk.set hB 5 v (by show 5 < 6; omega), r1, row_fr h.rn hf fun i hi hm => ?_, r2, row_fr h.rs hf fun i hi hm => ?_, ?_, h.pl, r3, fun i hi x hx => ⟨(h.lt i hi x hx).1, Nat.lt_of_lt_of_le (h.lt i hi x hx).2 hf.size⟩, fun i hi x hx => ?_, h.sep, h.gb, r4⟩
  · simp only [List.mem_cons, Option.mem_toList] at hm
    rcases hm with rfl | hm
    · exact row_ne h.rn h.blk (by decide) hi
    · exact rows_ne h.rn h.rd (by decide) i hi hm
  · simp only [List.mem_cons, Option.mem_toList] at hm
    rcases hm with rfl | hm
    · exact row_ne h.rs h.blk (by decide) hi
    · exact rows_ne h.rs h.rd (by decide) i hi hm
  · rw [List.length_append, rowP_append]
    exact row_of hr fun i hi => Below.heap_setCell _ _ _ _ (fun e => hvg (by rw [hi, e]))
  · obtain ⟨d1, d2, d3, d4⟩ := h.dis i hi x hx
    exact ⟨d1, d2, d3, hvl x (h.lt i hi x hx).2 d4⟩
theorem getD_snoc {α : Type} (l : List α) (x y : α) (i : Nat) : (l ++ [x]).getD i y = if i < l.length then l.getD i y else if i = l.length then x else y := by
  by_cases h : i < l.length
  · rw [if_pos h]; simp [List.getElem?_append_left h]
  · rw [if_neg h]
    by_cases e : i = l.length
    · rw [if_pos e, e]; simp
    · rw [if_neg e]
      rw [List.getD_eq_getElem?_getD, List.getElem?_eq_none (by simp; omega)]
      rfl
/-- one node more: it was made, a pointer to it appended, the cell written -/
theorem Wm.push {w0 : World} {vs : List Int} {w w1 W : World} {u : Wl} {d : Wd} (h : Wm w0 vs w u d) {p : Pl} {s : St} (hm : Made w w1 p s) {w2 : World} (h2 : Below w1.heap.size w1 w2) {v : Value} (hr : W.ownsRow w0.heap.size 31 1 v (u.ps.length + 1) (ptrs u.ps ++ [.pointer (some ⟨p.g, 0, none⟩)])) (hg : w2.grownBy W u.nv.ownBlock) (ha : v.ownBlock = u.nv.ownBlock ∨ v.ownBlock = some w2.heap.size) :
    Wm w0 vs (W.setCell ⟨u.g, 2, none⟩ v) { u with nv := v, ps := u.ps ++ [p] } { d with ns := d.ns ++ [s] } := by
  have hb : Below w.heap.size w w2 := hm.bel.trans (h2.mono hm.bel.size)
  have k := h.below hb
  have hf : Dk.Fr (u.g :: u.nv.ownBlock.toList) w2 (W.setCell ⟨u.g, 2, none⟩ v) := ((Dk.Fr.refl _ w2).grown hg (fun i hi => .inl (by simp [hi]))).setCell _ (.inl (by simp)) _
  have hS : ∀ x ∈ u.g :: u.nv.ownBlock.toList, x = u.g ∨ u.nv.ownBlock = some x ∨ u.sv.ownBlock = some x ∨ u.dv.ownBlock = some x := fun x hx => by
    simp only [List.mem_cons, Option.mem_toList] at hx
    rcases hx with rfl | hx
    · exact .inl rfl
    · exact .inr (.inl hx)
  obtain ⟨r1, r2, r3, r4⟩ := k.rest hf hS
  have hB : Blk W u.g (wdC u) 61 := (hg.block _ (Blk.lt k.blk) (row_ne k.rn k.blk (by decide)).symm).trans k.blk
  have hvg : v.ownBlock ≠ some u.g := row_ne hr hB (by decide)
  have hvl : ∀ x, x < w2.heap.size → u.nv.ownBlock ≠ some x → v.ownBlock ≠ some x := fun x hx hs he => by
    rcases ha with e | e
    · exact hs (by rw [← e]; exact he)
    · rw [e] at he; cases he; omega
  have h12 := h2.size
  have hsz := hm.bel.size
  have hpl : ∀ i, (⟨u.g, u.vv, v, u.lv, u.sv, u.dv, u.ps ++ [p]⟩ : Wl).p i = if i < d.ns.length then u.p i else if i = d.ns.length then p else p00 := fun i => by
    rw [← h.pl]; exact getD_snoc u.ps p p00 i
  have hnd : ∀ i, nd { d with ns := d.ns ++ [s] } i = if i < d.ns.length then nd d i else if i = d.ns.length then s else s00 := fun i => getD_snoc d.ns s s00 i
  have hlen : (d.ns ++ [s]).length = d.ns.length + 1 := by simp
  have hpf : ∀ x ∈ p.all, x < w2.heap.size := fun x hx => Nat.lt_of_lt_of_le (hm.new x hx).2 h12
  have hpn : ∀ x ∈ p.all, w.heap.size ≤ x := fun x hx => (hm.new x hx).1
  have hlo := h.bel.size
  refine ⟨Blk.set hB 2 v (by show 2 < 6; omega), r1, ?_, r2, row_fr k.rs hf fun i hi hm => ?_, row_fr k.rd hf fun i hi hm => ?_, by simp [h.pl], fun i hi => ?_, fun i hi x hx => ?_, fun i hi x hx => ?_, fun i j hi hj hij x hx hm2 => ?_, h.gb, r4⟩
  · rw [List.length_append, ptrs_snoc]
    exact row_of hr fun i hi => Below.heap_setCell _ _ _ _ (fun e => hvg (by rw [hi, e]))
  · simp only [List.mem_cons, Option.mem_toList] at hm
    rcases hm with rfl | hm
    · exact row_ne k.rs k.blk (by decide) hi
    · exact rows_ne k.rs k.rn (by decide) i hi hm
  · simp only [List.mem_cons, Option.mem_toList] at hm
    rcases hm with rfl | hm
    · exact row_ne k.rd k.blk (by decide) hi
    · exact rows_ne k.rd k.rn (by decide) i hi hm
  · rw [hlen] at hi
    rw [hpl, hnd]
    by_cases e : i < d.ns.length
    · rw [if_pos e, if_pos e]; exact r3 i e
    · have e' : i = d.ns.length := by omega
      rw [if_neg e, if_neg e, if_pos e', if_pos e']
      refine (hm.im.below h2).fr hf fun x hx hm2 => ?_
      have hxn := hpn x hx
      simp only [List.mem_cons, Option.mem_toList] at hm2
      rcases hm2 with rfl | hm2
      · have := Blk.lt h.blk; omega
      · have := (row_lo h.rn x hm2).2; omega
  · rw [hlen] at hi
    rw [hpl] at hx
    have hfs : w2.heap.size ≤ (W.setCell ⟨u.g, 2, none⟩ v).heap.size := hf.size
    by_cases e : i < d.ns.length
    · rw [if_pos e] at hx
      have := k.lt i e x hx
      exact ⟨this.1, Nat.lt_of_lt_of_le this.2 hfs⟩
    · have e' : i = d.ns.length := by omega
      rw [if_neg e, if_pos e'] at hx
      have := hpn x hx
      exact ⟨by omega, Nat.lt_of_lt_of_le (hpf x hx) hfs⟩
  · rw [hlen] at hi
    rw [hpl] at hx
    by_cases e : i < d.ns.length
    · rw [if_pos e] at hx
      obtain ⟨d1, d2, d3, d4⟩ := h.dis i e x hx
      exact ⟨d1, hvl x (k.lt i e x hx).2 d2, d3, d4⟩
    · have e' : i = d.ns.length := by omega
      rw [if_neg e, if_pos e'] at hx
      have hxn := hpn x hx
      refine ⟨fun e2 => ?_, hvl x (hpf x hx) fun e2 => ?_, fun e2 => ?_, fun e2 => ?_⟩
      · have e3 : x = u.g := e2
        have := Blk.lt h.blk; omega
      · have := (row_lo h.rn x e2).2; omega
      · have := (row_lo h.rs x e2).2; omega
      · have := (row_lo h.rd x e2).2; omega
  · rw [hlen] at hi hj
    rw [hpl] at hx hm2
    by_cases e : i < d.ns.length
    · rw [if_pos e] at hx
      by_cases e2 : j < d.ns.length
      · rw [if_pos e2] at hm2
        exact h.sep i j e e2 hij x hx hm2
      · rw [if_neg e2, if_pos (by omega)] at hm2
        have h1 := hpn x (ft_all hm2)
        have h3 := (h.lt i e x hx).2
        omega
    · rw [if_neg e, if_pos (by omega)] at hx
      have h1 := hpn x hx
      by_cases e2 : j < d.ns.length
      · rw [if_pos e2] at hm2
        have h3 := (h.lt j e2 x (ft_all hm2)).2
        omega
      · omega
/-- a node is made anew -/
theorem Wm.anew {w0 : World} {vs : List Int} {w W : World} {u : Wl} {d : Wd} (h : Wm w0 vs w u d) (k : Nat) (hk : k < d.ns.length) {p : Pl} {s : St} (hm : Made w W p s) {b : Nat} (hb : u.nv.ownBlock = some b) :
    Wm w0 vs (W.setCell ⟨b, k, none⟩ (.pointer (some ⟨p.g, 0, none⟩))) { u with ps := u.ps.set k p } { d with ns := d.ns.set k s } := by
  have q := h.below hm.bel
  have hf : Dk.Fr [b] W (W.setCell ⟨b, k, none⟩ (.pointer (some ⟨p.g, 0, none⟩))) := (Dk.Fr.refl _ _).setCell _ (.inl (by simp)) _
  have hS : ∀ x ∈ [b], x = u.g ∨ u.nv.ownBlock = some x ∨ u.sv.ownBlock = some x ∨ u.dv.ownBlock = some x := fun x hx => by
    simp only [List.mem_singleton] at hx
    subst hx
    exact .inr (.inl hb)
  obtain ⟨r1, r2, r3, r4⟩ := q.rest hf hS
  have hsz := hm.bel.size
  have hlo := h.bel.size
  have hkp : k < u.ps.length := by rw [h.pl]; exact hk
  have hpl : ∀ i, ({ u with ps := u.ps.set k p } : Wl).p i = if i = k then p else u.p i := fun i => by
    show (u.ps.set k p).getD i p00 = _
    by_cases e : i = k
    · subst e; rw [if_pos rfl]; simp [hkp]
    · rw [if_neg e]; simp [Wl.p, List.getElem?_set_ne (Ne.symm e)]
  have hlen : (d.ns.set k s).length = d.ns.length := by simp
  have hpn : ∀ x ∈ p.all, w.heap.size ≤ x ∧ x < W.heap.size := fun x hx => hm.new x hx
  have hrow : (W.setCell ⟨b, k, none⟩ (.pointer (some ⟨p.g, 0, none⟩))).ownsRow w0.heap.size 31 1 u.nv (u.ps.set k p).length (ptrs (u.ps.set k p)) := by
    obtain ⟨t1, t2⟩ := q.rn
    rcases t2 with ⟨e, _⟩ | ⟨g, cap, cur, e, hg, hh, h4, h5, h6, h7⟩
    · rw [e] at hb; cases hb
    · rw [e] at hb
      cases hb
      have hps : ptrs (u.ps.set k p) = (ptrs u.ps).set k (.pointer (some ⟨p.g, 0, none⟩)) := by simp [ptrs, List.map_set]
      refine ⟨by simp [ptrs], .inr ⟨g, cap, cur.setIfInBounds k (.pointer (some ⟨p.g, 0, none⟩)), by rw [e, List.length_set], hg, heap_setCell_same _ g k _ _ _ hh, by rw [List.length_set]; exact h4, h5, by simpa using h6, ?_⟩⟩
      rw [hps, ← h7, List.length_set, Array.toList_setIfInBounds, List.take_set]
  refine ⟨(hf.block _ (Blk.lt q.blk) (fun hm2 => row_ne q.rn q.blk (by decide) (by simp only [List.mem_singleton] at hm2; rw [hm2]; exact hb))).trans q.blk, r1, hrow, r2, row_fr q.rs hf fun i hi hm2 => ?_, row_fr q.rd hf fun i hi hm2 => ?_, by simp [h.pl], fun i hi => ?_, fun i hi x hx => ?_, fun i hi x hx => ?_, fun i j hi hj hij x hx hm2 => ?_, h.gb, r4⟩
  · simp only [List.mem_singleton] at hm2
    exact rows_ne q.rs q.rn (by decide) i hi (by rw [hm2]; exact hb)
  · simp only [List.mem_singleton] at hm2
    exact rows_ne q.rd q.rn (by decide) i hi (by rw [hm2]; exact hb)
  · rw [hlen] at hi
    rw [hpl, nd_set d.ns d.logs d.sent d.leads k s i hk]
    by_cases e : i = k
    · rw [if_pos e, if_pos e]
      refine hm.im.fr hf fun x hx hm2 => ?_
      simp only [List.mem_singleton] at hm2
      have h1 := hpn x hx
      have := (row_lo h.rn b hb).2
      omega
    · rw [if_neg e, if_neg e]; exact r3 i hi
  · rw [hlen] at hi
    rw [hpl] at hx
    have hfs : W.heap.size ≤ (W.setCell ⟨b, k, none⟩ (.pointer (some ⟨p.g, 0, none⟩))).heap.size := hf.size
    by_cases e : i = k
    · rw [if_pos e] at hx
      have := hpn x hx
      exact ⟨by omega, by omega⟩
    · rw [if_neg e] at hx
      have := q.lt i hi x hx
      exact ⟨this.1, by omega⟩
  · rw [hlen] at hi
    rw [hpl] at hx
    by_cases e : i = k
    · rw [if_pos e] at hx
      have hxn := hpn x hx
      refine ⟨fun e2 => ?_, fun e2 => ?_, fun e2 => ?_, fun e2 => ?_⟩
      · have e3 : x = u.g := e2
        have := Blk.lt h.blk; omega
      · have := (row_lo h.rn x e2).2; omega
      · have := (row_lo h.rs x e2).2; omega
      · have := (row_lo h.rd x e2).2; omega
    · rw [if_neg e] at hx
      exact h.dis i hi x hx
  · rw [hlen] at hi hj
    rw [hpl] at hx hm2
    by_cases e : i = k
    · rw [if_pos e] at hx
      rw [if_neg (by omega)] at hm2
      have h1 := (hpn x hx).1
      have h3 := (h.lt j hj x (ft_all hm2)).2
      omega
    · rw [if_neg e] at hx
      by_cases e2 : j = k
      · rw [if_pos e2] at hm2
        have h1 := (hpn x (ft_all hm2)).1
        have h3 := (h.lt i hi x hx).2
        omega
      · rw [if_neg e2] at hm2
        exact h.sep i j hi hj hij x hx hm2
end Go.Proofs.Ytjajgjpkiofhmaa.El
