/-
  Layer 9, three rows that grow beside one another; who has the middle. Conditions: the lists can be read.
-/
import Derived.Test.YtcnligkndficoaaQuLm
import Derived.Test.YtcnligkndficoaaQuM0
import Derived.Test.YtcnligkndficoaaQuA
import Derived.Deep.RegionHeld3
import Derived.Deep.RegionWith
namespace Go.Proofs.Ytcnligkndficoaa.Qu
open Go.RowKit Go.Proofs.Ytcnligkndficoaa.Fld
set_option linter.unusedVariables false

theorem cnt_filter (vs : List Int) (p : Int → Bool) : cnt vs (vs.filter p) = vs.countP p := by
  unfold cnt
  refine List.countP_congr (fun v hv => ?_)
  rw [has_iff, List.mem_filter]
  exact ⟨fun h => h.2, fun h => ⟨hv, h⟩⟩
theorem filter_take (vs : List Int) (p : Int → Bool) (k : Nat) (h : k < vs.length) : (vs.take (k + 1)).filter p = (vs.take k).filter p ++ (if p (vs.getD k 0) then [vs.getD k 0] else []) := by
  rw [take_succ vs k h, List.filter_append]
  congr 1
  cases hp : p (vs.getD k 0) <;> simp only [List.filter_cons, hp, List.filter_nil] <;> rfl
theorem filter_le (vs : List Int) (p : Int → Bool) (k : Nat) : ((vs.take k).filter p).length ≤ vs.length := Nat.le_trans (List.length_filter_le _ _) (by rw [List.length_take]; omega)
theorem cnt_others (vs l : List Int) : cnt vs (vs.filter fun v => !hasI l v) + cnt vs l = vs.length := by
  rw [cnt_filter]
  unfold cnt
  have := List.length_eq_countP_add_countP (hasI l) (l := vs)
  simp only [Bool.not_eq_true] at this
  have e : vs.countP (fun v => !hasI l v) = vs.countP (fun a => decide (hasI l a = false)) := List.countP_congr (fun v _ => by cases hasI l v <;> simp)
  omega
theorem others_no {vs ls l : List Int} (h : winsG vs ls l = true) : winsG vs ls (vs.filter fun v => !hasI l v) = false := by
  unfold winsG need at *
  simp only [Bool.and_eq_true, decide_eq_true_eq] at h
  have := cnt_others vs l
  rw [h.1]
  simp
  omega
theorem wins_lost {vs ls l : List Int} (h : winsG vs ls l = true) : lostG vs ls l = true := by
  unfold winsG need at h
  unfold lostG need
  simp only [Bool.and_eq_true, decide_eq_true_eq] at h ⊢
  exact ⟨h.1, by omega⟩
theorem least_yes {vs ls ps : List Int} (h : grpOk vs ls = true) : winsG vs ls (vs.filter fun v => decide (midG vs ls ps ≤ atOf ps v)) = true ∧ winsG vs ls (vs.filter fun v => decide (midG vs ls ps < atOf ps v)) = false := by
  have hn : 0 < vs.length := List.length_pos_iff.2 ((grpOk_iff vs ls).1 h).1
  have hm := mid_is (vs.map (atOf ps)) (need vs) (by unfold need; omega) (by rw [List.length_map]; unfold need; omega)
  have e : midG vs ls ps = midOf (vs.map (atOf ps)) (need vs) := by unfold midG; rw [if_pos h]
  rw [e]
  obtain ⟨_, a, b⟩ := hm
  rw [List.countP_map] at a b
  unfold winsG
  rw [cnt_filter, cnt_filter, h]
  constructor
  · simp only [Bool.true_and, decide_eq_true_eq]
    exact a
  · simp only [Bool.true_and, decide_eq_false_iff_not, Nat.not_le]
    exact b
/-- three rows of a call's own, each in a block of its own -/
def Off (u v : Value) : Prop := ∀ r, u.ownBlock = some r → v.ownBlock ≠ some r
structure Tri (w0 W : World) (v1 : Value) (l1 : List Int) (v2 : Value) (l2 : List Int) (v3 : Value) (l3 : List Int) : Prop where
  o1 : OwnI w0 W v1 l1
  o2 : OwnI w0 W v2 l2
  o3 : OwnI w0 W v3 l3
  d12 : Off v1 v2
  d13 : Off v1 v3
  d23 : Off v2 v3
theorem Off.symm {u v : Value} (h : Off u v) : Off v u := fun r hr hu => h r hu hr
theorem Tri.below {w0 W W' : World} {v1 v2 v3 : Value} {l1 l2 l3 : List Int} (h : Tri w0 W v1 l1 v2 l2 v3 l3) (hb : Below W.heap.size W W') : Tri w0 W' v1 l1 v2 l2 v3 l3 := ⟨h.o1.below hb, h.o2.below hb, h.o3.below hb, h.d12, h.d13, h.d23⟩
theorem Tri.rot {w0 W : World} {v1 v2 v3 : Value} {l1 l2 l3 : List Int} (h : Tri w0 W v1 l1 v2 l2 v3 l3) : Tri w0 W v2 l2 v3 l3 v1 l1 := ⟨h.o2, h.o3, h.o1, h.d23, h.d12.symm, h.d13.symm⟩
theorem OwnI.lt {w0 W : World} {v : Value} {l : List Int} (h : OwnI w0 W v l) : ∀ r, v.ownBlock = some r → r < W.heap.size := by
  intro r hr
  rcases h.2.2 with ⟨rfl, _⟩ | ⟨g, cap, cur, rfl, hg, hh, _⟩
  · simp [Value.ownBlock] at hr
  · simp [Value.ownBlock] at hr
    subst hr
    exact (Array.getElem?_eq_some_iff.1 hh).1
theorem OwnI.other {w0 W W' : World} {u v : Value} {l : List Int} (h : OwnI w0 W u l) (hb : Below w0.heap.size w0 W') (hg : W.grownBy W' v.ownBlock) (hd : Off v u) : OwnI w0 W' u l := by
  obtain ⟨h0, h1, h2⟩ := h
  refine ⟨hb, h1, ?_⟩
  rcases h2 with h2 | ⟨g, cap, cur, rfl, h3, h4, h5⟩
  · exact .inl h2
  · refine .inr ⟨g, cap, cur, rfl, h3, ?_, h5⟩
    rw [hg.block g (Array.getElem?_eq_some_iff.1 h4).1 (fun he => hd g he.symm rfl)]
    exact h4
theorem Tri.app {w0 W W' : World} {v1 v1' v2 v3 : Value} {l1 l1' l2 l3 : List Int} (h : Tri w0 W v1 l1 v2 l2 v3 l3) (ho : OwnI w0 W' v1' l1') (hg : W.grownBy W' v1.ownBlock) (ha : v1'.ownBlock = v1.ownBlock ∨ v1'.ownBlock = some W.heap.size) : Tri w0 W' v1' l1' v2 l2 v3 l3 := by
  have key : ∀ {u : Value} {l : List Int}, OwnI w0 W u l → Off v1 u → Off v1' u := by
    intro u l hu hd r hr hur
    rcases ha with ha | ha
    · exact hd r (ha ▸ hr) hur
    · rw [ha] at hr
      cases hr
      have := hu.lt _ hur
      omega
  exact ⟨ho, h.o2.other ho.1 hg h.d12, h.o3.other ho.1 hg h.d13, key h.o2 h.d12, key h.o3 h.d13, h.d23⟩
set_option maxRecDepth 100000 in
theorem wpList_append_tri {w : World} {ops : Array Oper} {rest : List Oper} {o : Oper} {a : Act} {Q : Exit → Act → World → Prop} (hgd : o.guard = none) (s x : Operand)
    (ho : o.op = .call { callee := .builtin .append, args := #[s, x], argTypes := #[22, 22] })
    (w0 : World) (v1 v2 v3 : Value) (l1 l2 l3 : List Int) (hs : a.eval s = v1) (ht : Tri w0 w v1 l1 v2 l2 v3 l3)
    (g : Nat) (z : Int) (hx : a.eval x = .slice (some ⟨g, 0, none⟩) 1 1) (hc : w.cell? ⟨g, 0, none⟩ = some (.int .i64 z)) (hb : l1.length ≤ 100000)
    (h : ∀ v' w', Tri w0 w' v' (l1 ++ [z]) v2 l2 v3 l3 → wpList Try.prog ops Q rest (a.put o.dst v') w') : wpList Try.prog ops Q (o :: rest) a w := by
  obtain ⟨i, hi, hz, hsz, hby⟩ := int_info
  refine wpList_append_own_at w hgd s x _ ho w0.heap.size 3 i _ 1 8 Try.underlying22 hi hz hsz hby rfl (by omega) v1 _ _ hs ht.o1.2 ⟨g, 0, none⟩ 1 1 [.int .i64 z] hx rfl ?_ ?_ (by unfold maxLen; omega) (by omega) ht.o1.1.size ?_
  · intro j u hu
    rcases j with _ | j
    · simp at hu; subst hu; exact hc
    · simp at hu
  · intro u hu; simp at hu; subst hu; rfl
  · intro v' w' hrow' hg _ hat
    refine h v' w' (ht.app ⟨ht.o1.1.grown hg ht.o1.1.size ht.o1.base, ?_⟩ hg hat)
    rw [List.length_append, vI_snoc]
    exact hrow'
end Go.Proofs.Ytcnligkndficoaa.Qu
