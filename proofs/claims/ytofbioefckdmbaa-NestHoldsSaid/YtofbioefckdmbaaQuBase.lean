/-
  Layer 9 in memory: slices of whole numbers that can be read, rows of a call's own, blocks. Conditions: as each theorem states.
-/
import Derived.Test.YtofbioefckdmbaaQuMath
import Derived.Deep.QuietTactic
import Derived.BigQuiet
import Derived.Laws.AppendOwnNone
namespace Go.Proofs.Ytofbioefckdmbaa.Qu
open Go.RowKit Go.Proofs.Ytofbioefckdmbaa.Fld
set_option linter.unusedVariables false

theorem drew_add (w : World) (a b : Nat) : (w.drewN a).drewN b = w.drewN (a + b) := by simp [World.drewN, Nat.add_assoc]
theorem below_dr (w : World) (k : Nat) : Below w.heap.size w (w.drewN k) := ⟨rfl, rfl, rfl, Nat.le_refl _, fun _ _ => rfl⟩
theorem alloc_below (w : World) (o : Obj) : Below w.heap.size w (w.alloc o) := (Below.refl _ _).alloc (Nat.le_refl _) o
/-- a block's cells -/
def Blk (w : World) (B : Nat) (cs : Array Value) (ty : TypeId) : Prop := w.heap[B]? = some (.cells cs ty (0, 0))
theorem Blk.cell {w : World} {B : Nat} {cs : Array Value} {ty : TypeId} (h : Blk w B cs ty) (i : Nat) (v : Value) (hv : cs[i]? = some v) : w.cell? ⟨B, i, none⟩ = some v := by rw [cell_of_row w B i _ _ (0, 0) h]; exact hv
theorem Blk.free {w : World} {B : Nat} {cs : Array Value} {ty : TypeId} (h : Blk w B cs ty) (i : Nat) : w.frozen? ⟨B, i, none⟩ = false := frozen_of_row w B i _ _ h
theorem Blk.lt {w : World} {B : Nat} {cs : Array Value} {ty : TypeId} (h : Blk w B cs ty) : B < w.heap.size := by
  rcases Nat.lt_or_ge B w.heap.size with h' | h'
  · exact h'
  · unfold Blk at h; rw [Array.getElem?_eq_none h'] at h; cases h
theorem Blk.below {w w' : World} {B : Nat} {cs : Array Value} {ty : TypeId} (h : Blk w B cs ty) (hb : Below w.heap.size w w') : Blk w' B cs ty := (hb.block B h.lt).trans h
theorem Blk.new (w : World) (cs : Array Value) (ty : TypeId) : Blk (w.alloc (.cells cs ty)) w.heap.size cs ty := heap_alloc_new w _
theorem Blk.past {w : World} {B : Nat} {cs : Array Value} {ty : TypeId} (h : Blk w B cs ty) (o : Obj) : Blk (w.alloc o) B cs ty := (Below.heap_alloc _ _ _ h.lt).trans h
theorem Blk.set {w : World} {B : Nat} {cs : Array Value} {ty : TypeId} (h : Blk w B cs ty) (i : Nat) (v : Value) (hi : i < cs.size) : Blk (w.setCell ⟨B, i, none⟩ v) B (cs.setIfInBounds i v) ty := heap_setCell_same w B i _ _ _ h
theorem Blk.far {w : World} {B : Nat} {cs : Array Value} {ty : TypeId} (h : Blk w B cs ty) (p : Addr) (hp : p.block ≠ B) (v : Value) : Blk (w.setCell p v) B cs ty := (Below.heap_setCell _ _ _ _ (Ne.symm hp)).trans h

/-- a slice of whole numbers -/
def RdI (w : World) (A : Option Addr) (n : Nat) (ks : List Int) : Prop :=
  ks.length = n ∧ n ≤ maxLen ∧ (0 < n → ∃ b off, A = some ⟨b, off, none⟩ ∧ ∀ i, i < n → w.cell? ⟨b, off + i, none⟩ = some (.int .i64 (ks.getD i 0)))
theorem RdI.nil (w : World) (A : Option Addr) : RdI w A 0 [] := ⟨rfl, by unfold maxLen; omega, fun h => by omega⟩
theorem RdI.below {w w' : World} {A : Option Addr} {n : Nat} {l : List Int} (h : RdI w A n l) (hb : Below w.heap.size w w') : RdI w' A n l := by
  obtain ⟨h1, h2, h3⟩ := h
  refine ⟨h1, h2, fun hn => ?_⟩
  obtain ⟨b, off, rfl, hc⟩ := h3 hn
  exact ⟨b, off, rfl, fun i hi => (hb.cell (p := ⟨b, off + i, none⟩) (lt_of_cell (hc i hi))).trans (hc i hi)⟩
theorem RdI.same {w w' : World} {A : Option Addr} {n : Nat} {l : List Int} (h : RdI w A n l) (hs : ∀ a : Addr, w'.cell? a = w.cell? a) : RdI w' A n l :=
  ⟨h.1, h.2.1, fun hn => by obtain ⟨b, off, rfl, hc⟩ := h.2.2 hn; exact ⟨b, off, rfl, fun i hi => (hs _).trans (hc i hi)⟩⟩
theorem RdI.empty {w : World} {n : Nat} {l : List Int} (h : RdI w none n l) : n = 0 ∧ l = [] := by
  rcases Nat.eq_zero_or_pos n with h0 | h0
  · exact ⟨h0, List.eq_nil_of_length_eq_zero (by rw [h.1, h0])⟩
  · obtain ⟨b, off, he, _⟩ := h.2.2 h0; cases he
def vI (l : List Int) : List Value := l.map fun (n : Int) => .int .i64 n
theorem vI_snoc (l : List Int) (n : Int) : vI (l ++ [n]) = vI l ++ [.int .i64 n] := by simp [vI]
theorem vI_append (l m : List Int) : vI (l ++ m) = vI l ++ vI m := by simp [vI]
theorem vI_len (l : List Int) : (vI l).length = l.length := by simp [vI]
theorem vI_at (l : List Int) (i : Nat) (h : i < l.length) : (vI l)[i]? = some (.int .i64 (l.getD i 0)) := by simp [vI, h]
theorem vI_one (l : List Int) : ∀ u ∈ vI l, u.oneCell' = true := by
  intro u hu
  simp only [vI, List.mem_map] at hu
  obtain ⟨c, _, rfl⟩ := hu
  rfl
theorem int_info : ∃ i, Try.prog.info? 3 = some i ∧ i.zero = some (.int .i64 0) ∧ i.size = 1 ∧ i.bytes = 8 := by
  have h : (Try.prog.info? 3).map (fun i => (i.zero, i.size, i.bytes)) = some (some (.int .i64 0), 1, 8) := by kernel_rfl
  cases hq : Try.prog.info? 3 with
  | none => simp [hq] at h
  | some i => simp [hq] at h; exact ⟨i, rfl, h⟩
/-- v is a slice of the numbers l in memory of the call's own, made behind w0; what was there at w0 is as it was -/
def OwnI (w0 w : World) (v : Value) (l : List Int) : Prop := Below w0.heap.size w0 w ∧ w.ownsRow w0.heap.size 3 1 v l.length (vI l)
theorem OwnI.nil (w0 w : World) (hb : Below w0.heap.size w0 w) : OwnI w0 w (.slice none 0 0) [] := ⟨hb, rfl, .inl ⟨rfl, rfl⟩⟩
theorem OwnI.below {w0 w w' : World} {v : Value} {l : List Int} (h : OwnI w0 w v l) (hb : Below w.heap.size w w') : OwnI w0 w' v l := by
  obtain ⟨h0, h1, h2⟩ := h
  refine ⟨h0.trans (hb.mono h0.size), h1, ?_⟩
  rcases h2 with h2 | ⟨g, cap, cur, e, h3, h4, h5⟩
  · exact .inl h2
  · exact .inr ⟨g, cap, cur, e, h3, (hb.block g (Array.getElem?_eq_some_iff.1 h4).1).trans h4, h5⟩
theorem OwnI.since {w0 w1 w : World} {v : Value} {l : List Int} (h : OwnI w1 w v l) (hb : Below w0.heap.size w0 w1) : OwnI w0 w v l := by
  obtain ⟨h0, h1, h2⟩ := h
  refine ⟨hb.trans (h0.mono hb.size), h1, ?_⟩
  rcases h2 with h2 | ⟨g, cap, cur, e, h3, h4⟩
  · exact .inl h2
  · exact .inr ⟨g, cap, cur, e, Nat.le_trans hb.size h3, h4⟩
theorem OwnI.base {w0 w : World} {v : Value} {l : List Int} (h : OwnI w0 w v l) : ∀ r, v.ownBlock = some r → w0.heap.size ≤ r := by
  intro r hr
  rcases h.2.2 with ⟨rfl, _⟩ | ⟨g, cap, cur, rfl, hg, _⟩
  · simp [Value.ownBlock] at hr
  · simp [Value.ownBlock] at hr; omega
theorem OwnI.form {w0 w : World} {v : Value} {l : List Int} (h : OwnI w0 w v l) (hk : l.length ≤ 1000000) : ∃ A cap, v = .slice A l.length cap ∧ RdI w A l.length l ∧ (A = none → cap = 0) ∧ l.length ≤ cap ∧ cap ≤ maxLen ∧ ∀ a, A = some a → w0.heap.size ≤ a.block ∧ a.spot = none := by
  obtain ⟨h0, h1, h2⟩ := h
  rcases h2 with ⟨rfl, h0⟩ | ⟨g, cap, cur, rfl, hg, hh, hnc, hcm, hcs, hcu⟩
  · rw [h0]
    obtain rfl : l = [] := List.eq_nil_of_length_eq_zero h0
    exact ⟨none, 0, rfl, RdI.nil _ _, fun _ => rfl, Nat.le_refl _, by unfold maxLen; omega, fun a h => by cases h⟩
  · refine ⟨_, _, rfl, ⟨rfl, by unfold maxLen; omega, fun _ => ⟨g, 0, rfl, fun i hi => ?_⟩⟩, (fun h => by cases h), hnc, hcm, fun a ha => by injection ha with ha; rw [← ha]; exact ⟨hg, rfl⟩⟩
    rw [Nat.zero_add, cell_of_row w g i cur _ (0, 0) hh, ← vI_at l i hi, ← hcu, List.getElem?_take, if_pos (by omega), Array.getElem?_toList]
set_option maxRecDepth 100000 in
theorem wpList_append_ints {w : World} {ops : Array Oper} {rest : List Oper} {o : Oper} {a : Act} {Q : Exit → Act → World → Prop} (hgd : o.guard = none) (s x : Operand)
    (ho : o.op = .call { callee := .builtin .append, args := #[s, x], argTypes := #[24, 24] })
    (w0 : World) (v : Value) (l : List Int) (hs : a.eval s = v) (hown : OwnI w0 w v l)
    (A : Option Addr) (n c : Nat) (ys : List Int) (hx : a.eval x = .slice A n c) (hA : A = none → c = 0) (hr : RdI w A n ys) (hb : l.length + n ≤ 1000000)
    (h : ∀ v' w', OwnI w0 w' v' (l ++ ys) → w.grownBy w' v.ownBlock → wpList Try.prog ops Q rest (a.put o.dst v') w') : wpList Try.prog ops Q (o :: rest) a w := by
  obtain ⟨i, hi, hz, hsz, hby⟩ := int_info
  have hbase := hown.base
  obtain ⟨hb1, hrow⟩ := hown
  rcases A with _ | ad
  · obtain ⟨rfl, rfl⟩ := hr.empty
    obtain rfl := hA rfl
    refine wpList_append_own_none hgd s x _ ho w0.heap.size 3 i 1 Try.underlying24 hi v _ _ hs hrow hx ?_
    exact h v w (by rw [List.append_nil]; exact ⟨hb1, hrow⟩) ⟨rfl, rfl, rfl, Nat.le_refl _, fun _ _ _ => rfl⟩
  · obtain ⟨hl, hm, hc⟩ := hr
    refine wpList_append_own_at w hgd s x _ ho w0.heap.size 3 i _ 1 8 Try.underlying24 hi hz hsz hby rfl (by omega) v _ _ hs hrow ad n c (vI ys) hx (by rw [vI_len]; omega) ?_ (vI_one ys) (by unfold maxLen; omega) (by omega) hb1.size ?_
    · intro j u hu
      have hj : j < ys.length := by
        rcases Nat.lt_or_ge j ys.length with hj | hj
        · exact hj
        · rw [List.getElem?_eq_none (by rw [vI_len]; exact hj)] at hu; cases hu
      rw [vI_at ys j hj] at hu
      obtain ⟨b, off, he, hcell⟩ := hc (by omega)
      obtain rfl := Option.some.inj he
      have := hcell j (by omega)
      rw [← hu, ← this]
      congr 1
      unfold Addr.add
      split <;> simp_all
    · intro v' w' hrow' hg _ hat
      refine h v' w' ⟨hb1.grown hg hb1.size hbase, ?_⟩ hg
      rw [List.length_append, hl, vI_append]; exact hrow'
theorem rdI_one (w : World) (z : Int) : RdI (w.alloc (.cells #[.int .i64 z] 3)) (some ⟨w.heap.size, 0, none⟩) 1 [z] := by
  refine ⟨rfl, by unfold maxLen; omega, fun _ => ⟨_, _, rfl, fun i hi => ?_⟩⟩
  obtain rfl : i = 0 := by omega
  rw [World.cell?_alloc_mark]
  rfl
end Go.Proofs.Ytofbioefckdmbaa.Qu
