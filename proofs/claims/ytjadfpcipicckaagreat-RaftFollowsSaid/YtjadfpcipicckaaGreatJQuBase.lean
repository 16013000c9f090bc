/-
  Several texts in one: Layer 9 in memory: slices of whole numbers that can be read, rows of a call's own, blocks. Conditions: as each theorem states. Layer 10 in memory: a node's block, its map of answers, its group's slices. Conditions: as each theorem states.
-/
import Derived.Test.YtjadfpcipicckaaGreatJFieldBase
import Derived.Deep.QuietTactic
import Derived.BigQuiet
import Derived.Laws.AppendOwnNone
import Derived.Test.YtjadfpcipicckaaGreatJElMath
import Derived.Maps.OwnSet
import Derived.Maps.Ext
namespace Go.Proofs.YtjadfpcipicckaaGreat.Qu
open Go.RowKit Go.Proofs.YtjadfpcipicckaaGreat.Fld
set_option linter.unusedVariables false

theorem drew_add (w : World) (a b : Nat) : (w.drewN a).drewN b = w.drewN (a + b) := by simp [World.drewN, Nat.add_assoc]
theorem below_dr (w : World) (k : Nat) : Below w.heap.size w (w.drewN k) := ⟨rfl, rfl, rfl, Nat.le_refl _, fun _ _ => rfl⟩
theorem alloc_below (w : World) (o : Obj) : Below w.heap.size w (w.alloc o) := (Below.refl _ _).alloc (Nat.le_refl _) o
/-- a block's cells -/
def Blk (w : World) (B : Nat) (cs : Array Value) (ty : TypeId) : Prop := w.heap[B]? = some (.cells cs ty (0, 0))
theorem Blk.cell {w : World} {B : Nat} {cs : Array Value} {ty : TypeId} (h : Blk w B cs ty) (i : Nat) (v : Value) (hv : cs[i]? = some v) : w.cell? ⟨B, i, none⟩ = some v := by rw [cell_of_row w B i _ _ (0, 0) h]; exact hv
theorem Blk.free {w : World} {B : Nat} {cs : Array Value} {ty : TypeId} (h : Blk w B cs ty) (i : Nat) : w.frozen? ⟨B, i, none⟩ = false := frozen_of_row w B i _ _ h
theorem Blk.lt {w : World} {B : Nat} {cs : Array Value} {ty : TypeId} (h : Blk w B cs ty) : B < w.heap.size := by
  rcases Nat.lt_or_ge B w.heap.size with h' | h'
  · exact h'
  · unfold Blk at h; rw [Array.getElem?_eq_none h'] at h; cases h
theorem Blk.below {w w' : World} {B : Nat} {cs : Array Value} {ty : TypeId} (h : Blk w B cs ty) (hb : Below w.heap.size w w') : Blk w' B cs ty := (hb.block B h.lt).trans h
theorem Blk.new (w : World) (cs : Array Value) (ty : TypeId) : Blk (w.alloc (.cells cs ty)) w.heap.size cs ty := heap_alloc_new w _
theorem Blk.past {w : World} {B : Nat} {cs : Array Value} {ty : TypeId} (h : Blk w B cs ty) (o : Obj) : Blk (w.alloc o) B cs ty := (Below.heap_alloc _ _ _ h.lt).trans h
theorem Blk.set {w : World} {B : Nat} {cs : Array Value} {ty : TypeId} (h : Blk w B cs ty) (i : Nat) (v : Value) (hi : i < cs.size) : Blk (w.setCell ⟨B, i, none⟩ v) B (cs.setIfInBounds i v) ty := heap_setCell_same w B i _ _ _ h
theorem Blk.far {w : World} {B : Nat} {cs : Array Value} {ty : TypeId} (h : Blk w B cs ty) (p : Addr) (hp : p.block ≠ B) (v : Value) : Blk (w.setCell p v) B cs ty := (Below.heap_setCell _ _ _ _ (Ne.symm hp)).trans h

/-- a slice of whole numbers -/
def RdI (w : World) (A : Option Addr) (n : Nat) (ks : List Int) : Prop :=
  ks.length = n ∧ n ≤ maxLen ∧ (0 < n → ∃ b off, A = some ⟨b, off, none⟩ ∧ ∀ i, i < n → w.cell? ⟨b, off + i, none⟩ = some (.int .i64 (ks.getD i 0)))
theorem RdI.nil (w : World) (A : Option Addr) : RdI w A 0 [] := ⟨rfl, by unfold maxLen; omega, fun h => by omega⟩
theorem RdI.below {w w' : World} {A : Option Addr} {n : Nat} {l : List Int} (h : RdI w A n l) (hb : Below w.heap.size w w') : RdI w' A n l := by
  obtain ⟨h1, h2, h3⟩ := h
  refine ⟨h1, h2, fun hn => ?_⟩
  obtain ⟨b, off, rfl, hc⟩ := h3 hn
  exact ⟨b, off, rfl, fun i hi => (hb.cell (p := ⟨b, off + i, none⟩) (lt_of_cell (hc i hi))).trans (hc i hi)⟩
theorem RdI.same {w w' : World} {A : Option Addr} {n : Nat} {l : List Int} (h : RdI w A n l) (hs : ∀ a : Addr, w'.cell? a = w.cell? a) : RdI w' A n l :=
  ⟨h.1, h.2.1, fun hn => by obtain ⟨b, off, rfl, hc⟩ := h.2.2 hn; exact ⟨b, off, rfl, fun i hi => (hs _).trans (hc i hi)⟩⟩
theorem RdI.empty {w : World} {n : Nat} {l : List Int} (h : RdI w none n l) : n = 0 ∧ l = [] := by
  rcases Nat.eq_zero_or_pos n with h0 | h0
  · exact ⟨h0, List.eq_nil_of_length_eq_zero (by rw [h.1, h0])⟩
  · obtain ⟨b, off, he, _⟩ := h.2.2 h0; cases he
def vI (l : List Int) : List Value := l.map fun (n : Int) => .int .i64 n
theorem vI_snoc (l : List Int) (n : Int) : vI (l ++ [n]) = vI l ++ [.int .i64 n] := by simp [vI]
theorem vI_append (l m : List Int) : vI (l ++ m) = vI l ++ vI m := by simp [vI]
theorem vI_len (l : List Int) : (vI l).length = l.length := by simp [vI]
theorem vI_at (l : List Int) (i : Nat) (h : i < l.length) : (vI l)[i]? = some (.int .i64 (l.getD i 0)) := by simp [vI, h]
theorem vI_one (l : List Int) : ∀ u ∈ vI l, u.oneCell' = true := by
  intro u hu
  simp only [vI, List.mem_map] at hu
  obtain ⟨c, _, rfl⟩ := hu
  rfl
theorem int_info : ∃ i, Tryz.prog.info? 3 = some i ∧ i.zero = some (.int .i64 0) ∧ i.size = 1 ∧ i.bytes = 8 := by
  have h : (Tryz.prog.info? 3).map (fun i => (i.zero, i.size, i.bytes)) = some (some (.int .i64 0), 1, 8) := by kernel_rfl
  cases hq : Tryz.prog.info? 3 with
  | none => simp [hq] at h
  | some i => simp [hq] at h; exact ⟨i, rfl, h⟩
/-- v is a slice of the numbers l in memory of the call's own, made behind w0; what was there at w0 is as it was -/
def OwnI (w0 w : World) (v : Value) (l : List Int) : Prop := Below w0.heap.size w0 w ∧ w.ownsRow w0.heap.size 3 1 v l.length (vI l)
theorem OwnI.nil (w0 w : World) (hb : Below w0.heap.size w0 w) : OwnI w0 w (.slice none 0 0) [] := ⟨hb, rfl, .inl ⟨rfl, rfl⟩⟩
theorem OwnI.below {w0 w w' : World} {v : Value} {l : List Int} (h : OwnI w0 w v l) (hb : Below w.heap.size w w') : OwnI w0 w' v l := by
  obtain ⟨h0, h1, h2⟩ := h
  refine ⟨h0.trans (hb.mono h0.size), h1, ?_⟩
  rcases h2 with h2 | ⟨g, cap, cur, e, h3, h4, h5⟩
  · exact .inl h2
  · exact .inr ⟨g, cap, cur, e, h3, (hb.block g (Array.getElem?_eq_some_iff.1 h4).1).trans h4, h5⟩
theorem OwnI.since {w0 w1 w : World} {v : Value} {l : List Int} (h : OwnI w1 w v l) (hb : Below w0.heap.size w0 w1) : OwnI w0 w v l := by
  obtain ⟨h0, h1, h2⟩ := h
  refine ⟨hb.trans (h0.mono hb.size), h1, ?_⟩
  rcases h2 with h2 | ⟨g, cap, cur, e, h3, h4⟩
  · exact .inl h2
  · exact .inr ⟨g, cap, cur, e, Nat.le_trans hb.size h3, h4⟩
theorem OwnI.base {w0 w : World} {v : Value} {l : List Int} (h : OwnI w0 w v l) : ∀ r, v.ownBlock = some r → w0.heap.size ≤ r := by
  intro r hr
  rcases h.2.2 with ⟨rfl, _⟩ | ⟨g, cap, cur, rfl, hg, _⟩
  · simp [Value.ownBlock] at hr
  · simp [Value.ownBlock] at hr; omega
theorem OwnI.form {w0 w : World} {v : Value} {l : List Int} (h : OwnI w0 w v l) (hk : l.length ≤ 1000000) : ∃ A cap, v = .slice A l.length cap ∧ RdI w A l.length l ∧ (A = none → cap = 0) ∧ l.length ≤ cap ∧ cap ≤ maxLen ∧ ∀ a, A = some a → w0.heap.size ≤ a.block ∧ a.spot = none := by
  obtain ⟨h0, h1, h2⟩ := h
  rcases h2 with ⟨rfl, h0⟩ | ⟨g, cap, cur, rfl, hg, hh, hnc, hcm, hcs, hcu⟩
  · rw [h0]
    obtain rfl : l = [] := List.eq_nil_of_length_eq_zero h0
    exact ⟨none, 0, rfl, RdI.nil _ _, fun _ => rfl, Nat.le_refl _, by unfold maxLen; omega, fun a h => by cases h⟩
  · refine ⟨_, _, rfl, ⟨rfl, by unfold maxLen; omega, fun _ => ⟨g, 0, rfl, fun i hi => ?_⟩⟩, (fun h => by cases h), hnc, hcm, fun a ha => by injection ha with ha; rw [← ha]; exact ⟨hg, rfl⟩⟩
    rw [Nat.zero_add, cell_of_row w g i cur _ (0, 0) hh, ← vI_at l i hi, ← hcu, List.getElem?_take, if_pos (by omega), Array.getElem?_toList]
set_option maxRecDepth 100000 in
theorem wpList_append_ints {w : World} {ops : Array Oper} {rest : List Oper} {o : Oper} {a : Act} {Q : Exit → Act → World → Prop} (hgd : o.guard = none) (s x : Operand)
    (ho : o.op = .call { callee := .builtin .append, args := #[s, x], argTypes := #[24, 24] })
    (w0 : World) (v : Value) (l : List Int) (hs : a.eval s = v) (hown : OwnI w0 w v l)
    (A : Option Addr) (n c : Nat) (ys : List Int) (hx : a.eval x = .slice A n c) (hA : A = none → c = 0) (hr : RdI w A n ys) (hb : l.length + n ≤ 1000000)
    (h : ∀ v' w', OwnI w0 w' v' (l ++ ys) → w.grownBy w' v.ownBlock → wpList Tryz.prog ops Q rest (a.put o.dst v') w') : wpList Tryz.prog ops Q (o :: rest) a w := by
  obtain ⟨i, hi, hz, hsz, hby⟩ := int_info
  have hbase := hown.base
  obtain ⟨hb1, hrow⟩ := hown
  rcases A with _ | ad
  · obtain ⟨rfl, rfl⟩ := hr.empty
    obtain rfl := hA rfl
    refine wpList_append_own_none hgd s x _ ho w0.heap.size 3 i 1 Tryz.underlying24 hi v _ _ hs hrow hx ?_
    exact h v w (by rw [List.append_nil]; exact ⟨hb1, hrow⟩) ⟨rfl, rfl, rfl, Nat.le_refl _, fun _ _ _ => rfl⟩
  · obtain ⟨hl, hm, hc⟩ := hr
    refine wpList_append_own_at w hgd s x _ ho w0.heap.size 3 i _ 1 8 Tryz.underlying24 hi hz hsz hby rfl (by omega) v _ _ hs hrow ad n c (vI ys) hx (by rw [vI_len]; omega) ?_ (vI_one ys) (by unfold maxLen; omega) (by omega) hb1.size ?_
    · intro j u hu
      have hj : j < ys.length := by
        rcases Nat.lt_or_ge j ys.length with hj | hj
        · exact hj
        · rw [List.getElem?_eq_none (by rw [vI_len]; exact hj)] at hu; cases hu
      rw [vI_at ys j hj] at hu
      obtain ⟨b, off, he, hcell⟩ := hc (by omega)
      obtain rfl := Option.some.inj he
      have := hcell j (by omega)
      rw [← hu, ← this]
      congr 1
      unfold Addr.add
      split <;> simp_all
    · intro v' w' hrow' hg _ hat
      refine h v' w' ⟨hb1.grown hg hb1.size hbase, ?_⟩ hg
      rw [List.length_append, hl, vI_append]; exact hrow'
theorem rdI_one (w : World) (z : Int) : RdI (w.alloc (.cells #[.int .i64 z] 3)) (some ⟨w.heap.size, 0, none⟩) 1 [z] := by
  refine ⟨rfl, by unfold maxLen; omega, fun _ => ⟨_, _, rfl, fun i hi => ?_⟩⟩
  obtain rfl : i = 0 := by omega
  rw [World.cell?_alloc_mark]
  rfl
end Go.Proofs.YtjadfpcipicckaaGreat.Qu

namespace Go.Proofs.YtjadfpcipicckaaGreat.El
open Go.RowKit Go.Proofs.YtjadfpcipicckaaGreat.Qu Go.Proofs.YtjadfpcipicckaaGreat.Fld
set_option linter.unusedVariables false

/-! ### the map of answers -/
theorem keyed : Maps.Keyed Tryz.prog 3 := Maps.int_keyed Tryz.underlying3
theorem wf64 {k : Int} (h : -9223372036854775808 ≤ k ∧ k ≤ 9223372036854775807) : (Lit.int .i64 k).wf = true := by
  show (decide ((-9223372036854775808 : Int) ≤ k) && decide (k ≤ 9223372036854775807)) = true
  simp
  omega
theorem keyN {k : Int} (h : -9223372036854775808 ≤ k ∧ k ≤ 9223372036854775807) : keyOf Tryz.prog 3 (.int .i64 k) = some (.int .i64 k) := Maps.keyOf_int_mk Tryz.underlying3 (wf64 h)
def KeysN (D : DataW Value) : Prop := ∀ key, Maps.has D key = true → ∃ k, key = .int .i64 k ∧ okNode k = true
def MapA (w : World) (b : Nat) (am : Int → Int) : Prop :=
  ∃ D : DataW Value, w.ownsMap Tryz.prog 3 (plainElem (H := Value) Tryz.prog 177) b 15 D ∧ KeysN D ∧ (∀ k, D.atKey (.int .i64 k) (.lit (.int .i64 0)) = .lit (.int .i64 (am k)))
theorem key_lit (k : Int) : WideAt.IsKeyLit (.int .i64 k) := trivial
def litI : Lit → Int
  | .int _ a => a
  | _ => 0
/-- a map whose keys are numbers of nodes has fifteen entries at most -/
theorem size_nodes {D : DataW Value} (hc : Maps.Canon D) (hk : KeysN D) : Maps.size D ≤ 15 := by
  obtain ⟨es, rfl, hp, hl⟩ := hc
  have hkey : ∀ p ∈ es, ∃ k, p.1 = .int .i64 k ∧ okNode k = true := fun p hp' => hk p.1 (List.any_eq_true.2 ⟨p, hp', WideAt.sameKey_self (hl p hp')⟩)
  have h1 : upN 0 (es.map fun p => litI p.1) = true := by
    refine upN_of _ _ (fun x hx => ?_) ?_
    · obtain ⟨p, hp', rfl⟩ := List.mem_map.1 hx
      obtain ⟨k, he, ho⟩ := hkey p hp'
      rw [he]
      have := (okNode_iff k).1 ho
      show 0 < k ∧ k ≤ 15
      omega
    · rw [List.pairwise_map]
      refine hp.imp_of_mem fun {a b} ha hb hab => ?_
      obtain ⟨k, he, _⟩ := hkey a ha
      obtain ⟨k', he', _⟩ := hkey b hb
      rw [he, he'] at hab ⊢
      simpa [Lit.before, litI] using hab
  have h2 := upN_len _ 0 h1 (by omega)
  rw [List.length_map] at h2
  show es.length ≤ 15
  omega
theorem tightM {w : World} {b n : Nat} {D : DataW Value} (h : w.ownsMap Tryz.prog 3 (plainElem (H := Value) Tryz.prog 177) b n D) (hk : KeysN D) : w.ownsMap Tryz.prog 3 (plainElem (H := Value) Tryz.prog 177) b 15 D := by
  have hs := size_nodes (h.canon keyed) hk
  obtain ⟨es, clock, h1, h2, h3, h4⟩ := h
  refine ⟨es, clock, h1, h2, ?_, h4⟩
  have := congrArg Maps.size h4
  have e1 : Maps.size (DataW.map ((es.toList.map (WideElems.rg Tryz.prog 3 (plainElem (H := Value) Tryz.prog 177))).foldr DataW.insert [])) = es.size := by simp [Maps.size, length_sorted]
  omega
set_option maxRecDepth 100000 in
theorem zero_run (w : World) : (zeroValue 177).run Tryz.prog w = .ok (.int .i64 0) w := by kernel_rfl
set_option maxRecDepth 100000 in
theorem MapA.look {w : World} {b : Nat} {am : Int → Int} (h : MapA w b am) {k : Int} (hk : -9223372036854775808 ≤ k ∧ k ≤ 9223372036854775807) :
    (Instr.lookup 88 (.map (some b)) (.int .i64 k) false).run Tryz.prog w = .ok (.int .i64 (am k)) w := by
  obtain ⟨D, h1, _, h3⟩ := h
  obtain ⟨c, hrun, hat, _⟩ := h1.lookup_int keyed Tryz.underlying88 Tryz.underlying177 (zero_run w) (keyN hk)
  rw [h3 k] at hat
  injection hat with hat
  injection hat with _ hat
  rw [hrun, hat]
set_option maxRecDepth 100000 in
theorem MapA.store {w : World} {b : Nat} {am : Int → Int} (h : MapA w b am) {k : Int} (hk : okNode k = true) {v : Int} (hv : -9223372036854775808 ≤ v ∧ v ≤ 9223372036854775807) :
    ∃ w', (Instr.mapUpdate 88 (.map (some b)) (.int .i64 k) (.int .i64 v)).run Tryz.prog w = .ok () w' ∧ MapA w' b (setA am k v) ∧ w.mapTurned w' b := by
  obtain ⟨D, h1, h2, h3⟩ := h
  have hki := (okNode_iff k).1 hk
  obtain ⟨w', hr, ho, ht⟩ := h1.store keyed Tryz.underlying88 (by unfold maxLen; omega) (keyN (k := k) ⟨by omega, by omega⟩) (plainElem_int Tryz.underlying177 (wf64 hv))
  have hK : KeysN (D.put (.int .i64 k) (.lit (.int .i64 v))) := by
    intro key hh
    by_cases he : key = .int .i64 k
    · exact ⟨k, he, hk⟩
    · rw [Maps.has_put_other he] at hh
      exact h2 key hh
  refine ⟨w', hr, ⟨_, tightM ho hK, hK, fun x => ?_⟩, ht⟩
  unfold setA
  by_cases hx : x = k
  · rw [if_pos hx, hx, Maps.atKey_put_same h1.isMap (key_lit k)]
  · rw [if_neg hx, Maps.atKey_put_other (by intro he; injection he with _ he; exact hx he)]
    exact h3 x
set_option maxRecDepth 100000 in
theorem MapA.clear {w : World} {b : Nat} {am : Int → Int} (h : MapA w b am) :
    ∃ w', (∀ ty, (Builtin.clear_ #[88] ty #[.map (some b)]).run Tryz.prog w = .ok (.tuple #[]) w') ∧ MapA w' b noneA ∧ w.mapTurned w' b := by
  obtain ⟨D, ⟨es, clock, hb, F, hs, hD⟩, h2, h3⟩ := h
  refine ⟨ChangeMaps.setBlock w b (.map #[] clock), fun ty => ?_, ⟨.map [], ⟨#[], clock, ChangeMaps.heap_setBlock_same hb _, ?_, by simp, by simp⟩, fun key hh => (by cases hh), fun k => rfl⟩, ⟨es, clock, #[], clock, hb, rfl⟩⟩
  · simp [Builtin.clear_, run_underlying Tryz.underlying88, MapKept.run_getObj_map hb, MapKept.run_setObj_map _ hb, Result.andThen, ChangeMaps.setBlock]
  · exact ⟨by simp, MapKept.stamped_empty clock, by simp⟩
theorem MapA.new (w : World) : MapA (w.alloc (.map #[] 0)) w.heap.size noneA :=
  ⟨.map [], (World.ownsMap_made w _ _ _).mono (by omega), fun key hh => (by cases hh), fun k => rfl⟩
theorem MapA.of {w w' : World} {b : Nat} {am : Int → Int} (h : MapA w b am) (hb : w'.heap[b]? = w.heap[b]?) : MapA w' b am := by
  obtain ⟨D, ⟨es, clock, h1, h2⟩, h3⟩ := h
  exact ⟨D, ⟨es, clock, hb.trans h1, h2⟩, h3⟩
theorem MapA.lt {w : World} {b : Nat} {am : Int → Int} (h : MapA w b am) : b < w.heap.size := by
  obtain ⟨D, h1, _⟩ := h
  exact h1.lt

/-! ### a node -/
structure Pl where
  g : Nat
  b : Nat
  VA : Option Addr
  vc : Nat
  LA : Option Addr
  lc : Nat
def ndC (p : Pl) (s : St) : Array Value := #[.int .i64 s.id, .int .i64 s.pat, .int .i64 s.term, .int .i64 s.vote, .slice p.VA s.vs.length p.vc, .slice p.LA s.ls.length p.lc, .int .i64 s.role, .int .i64 s.lead, .int .i64 s.wait, .int .i64 s.lim, .map (some p.b)]
def Nd (w : World) (p : Pl) (s : St) : Prop := Blk w p.g (ndC p s) 90
structure Im (w : World) (p : Pl) (s : St) : Prop where
  blk : Nd w p s
  map : MapA w p.b s.am
  vs : RdI w p.VA s.vs.length s.vs
  ls : RdI w p.LA s.ls.length s.ls
  va : ∀ a, p.VA = some a → a.block ≠ p.g ∧ a.block ≠ p.b
  la : ∀ a, p.LA = some a → a.block ≠ p.g ∧ a.block ≠ p.b
  ne : p.g ≠ p.b
  ok : s.Ok
theorem Nd.cells {w : World} {p : Pl} {s : St} (h : Nd w p s) : w.cell? ⟨p.g, 0, none⟩ = some (.int .i64 s.id) ∧ w.cell? ⟨p.g, 1, none⟩ = some (.int .i64 s.pat) ∧ w.cell? ⟨p.g, 2, none⟩ = some (.int .i64 s.term) ∧ w.cell? ⟨p.g, 3, none⟩ = some (.int .i64 s.vote) ∧ w.cell? ⟨p.g, 4, none⟩ = some (.slice p.VA s.vs.length p.vc) ∧ w.cell? ⟨p.g, 5, none⟩ = some (.slice p.LA s.ls.length p.lc) ∧ w.cell? ⟨p.g, 6, none⟩ = some (.int .i64 s.role) ∧ w.cell? ⟨p.g, 7, none⟩ = some (.int .i64 s.lead) ∧ w.cell? ⟨p.g, 8, none⟩ = some (.int .i64 s.wait) ∧ w.cell? ⟨p.g, 9, none⟩ = some (.int .i64 s.lim) ∧ w.cell? ⟨p.g, 10, none⟩ = some (.map (some p.b)) :=
  ⟨Blk.cell h 0 _ rfl, Blk.cell h 1 _ rfl, Blk.cell h 2 _ rfl, Blk.cell h 3 _ rfl, Blk.cell h 4 _ rfl, Blk.cell h 5 _ rfl, Blk.cell h 6 _ rfl, Blk.cell h 7 _ rfl, Blk.cell h 8 _ rfl, Blk.cell h 9 _ rfl, Blk.cell h 10 _ rfl⟩
theorem rdI_fr {S : List Nat} {w w' : World} {A : Option Addr} {n : Nat} {l : List Int} (h : RdI w A n l) (hf : Dk.Fr S w w') (ha : ∀ a, A = some a → a.block ∉ S) : RdI w' A n l := by
  obtain ⟨h1, h2, h3⟩ := h
  refine ⟨h1, h2, fun hn => ?_⟩
  obtain ⟨b, off, rfl, hc⟩ := h3 hn
  exact ⟨b, off, rfl, fun i hi => (World.cell?_of_block (w := w) (hf.block b (lt_of_cell (hc i hi)) (ha _ rfl))).trans (hc i hi)⟩
/-- the blocks of a node that its calls may change -/
def Pl.ft (p : Pl) : List Nat := [p.g, p.b]
/-- all blocks that it reads -/
def Pl.all (p : Pl) : List Nat := p.g :: p.b :: (p.VA.map Addr.block).toList ++ (p.LA.map Addr.block).toList
theorem Im.fr {S : List Nat} {w w' : World} {p : Pl} {s : St} (h : Im w p s) (hf : Dk.Fr S w w') (hd : ∀ i ∈ p.all, i ∉ S) : Im w' p s :=
  ⟨(hf.block _ (Blk.lt h.blk) (hd _ (by simp [Pl.all]))).trans h.blk, h.map.of (hf.block _ h.map.lt (hd _ (by simp [Pl.all]))), rdI_fr h.vs hf (fun a ha => hd _ (by simp [Pl.all, ha])), rdI_fr h.ls hf (fun a ha => hd _ (by simp [Pl.all, ha])), h.va, h.la, h.ne, h.ok⟩
theorem Im.below {w w' : World} {p : Pl} {s : St} (h : Im w p s) (hb : Below w.heap.size w w') : Im w' p s := h.fr (S := []) (Dk.Fr.below hb) (fun i _ hi => by cases hi)
/-- what was read before is read behind a change of the node's own two blocks -/
theorem Im.turn {w w' : World} {p : Pl} {s s' : St} (h : Im w p s) (hf : Dk.Fr p.ft w w') (hb : Nd w' p s') (hm : MapA w' p.b s'.am) (hv : s'.vs = s.vs) (hl : s'.ls = s.ls) (ok : s'.Ok) : Im w' p s' := by
  have hva : ∀ a, p.VA = some a → a.block ∉ p.ft := fun a ha hm => by
    have := h.va a ha
    simp only [Pl.ft, List.mem_cons, List.not_mem_nil, or_false] at hm
    omega
  have hla : ∀ a, p.LA = some a → a.block ∉ p.ft := fun a ha hm => by
    have := h.la a ha
    simp only [Pl.ft, List.mem_cons, List.not_mem_nil, or_false] at hm
    omega
  exact ⟨hb, hm, by rw [hv]; exact rdI_fr h.vs hf hva, by rw [hl]; exact rdI_fr h.ls hf hla, h.va, h.la, h.ne, ok⟩
/-- what a call leaves of a node -/
structure Did (w w' : World) (p : Pl) (s' : St) : Prop where
  im : Im w' p s'
  fr : Dk.Fr p.ft w w'
theorem Did.same {w w' : World} {p : Pl} {s : St} (h : Im w p s) (hb : Below w.heap.size w w') : Did w w' p s := ⟨h.below hb, Dk.Fr.below hb⟩
theorem Did.then {w w1 w' : World} {p : Pl} {s1 s' : St} (h : Did w w1 p s1) (k : Did w1 w' p s') : Did w w' p s' := ⟨k.im, h.fr.same k.fr⟩
theorem Did.to {w w1 w' : World} {p : Pl} {s1 : St} (h : Did w w1 p s1) (hb : Below w1.heap.size w1 w') : Did w w' p s1 := ⟨h.im.below hb, h.fr.same (Dk.Fr.below hb)⟩
theorem Did.past {w w1 w' : World} {p : Pl} {s' : St} (hb : Below w.heap.size w w1) (k : Did w1 w' p s') : Did w w' p s' := ⟨k.im, (Dk.Fr.below hb).same k.fr⟩
/-- a cell of the node's block is written -/
theorem Im.set {w : World} {p : Pl} {s s' : St} (h : Im w p s) (i : Nat) (v : Value) (hc : (ndC p s).setIfInBounds i v = ndC p s') (hi : i < 11) (ha : s'.am = s.am) (hv : s'.vs = s.vs) (hl : s'.ls = s.ls) (ok : s'.Ok) : Did w (w.setCell ⟨p.g, i, none⟩ v) p s' := by
  have hf : Dk.Fr p.ft w (w.setCell ⟨p.g, i, none⟩ v) := (Dk.Fr.refl _ _).setCell _ (.inl (by simp [Pl.ft])) _
  refine ⟨h.turn hf ?_ ?_ hv hl ok, hf⟩
  · unfold Nd; rw [← hc]; exact Blk.set h.blk i v (by show i < 11; exact hi)
  · rw [ha]; exact h.map.of (Below.heap_setCell _ _ _ _ (Ne.symm h.ne))
/-- the map was changed -/
theorem Im.mapped {w w' : World} {p : Pl} {s s' : St} (h : Im w p s) (ht : w.mapTurned w' p.b) (hm : MapA w' p.b s'.am) (hc : ndC p s = ndC p s') (hv : s'.vs = s.vs) (hl : s'.ls = s.ls) (ok : s'.Ok) : Did w w' p s' := by
  have hf : Dk.Fr p.ft w w' := (Dk.Fr.refl _ _).turned ht (.inl (by simp [Pl.ft]))
  refine ⟨h.turn hf ?_ hm hv hl ok, hf⟩
  unfold Nd
  rw [← hc]
  have : w'.heap[p.g]? = w.heap[p.g]? := ht.grown.block _ (Blk.lt h.blk) (by intro he; injection he with he; exact h.ne he)
  exact this.trans h.blk

/-! ### ballots -/
def Bal.cells (x : Bal) : List Value := [.int .i64 x.kind, .int .i64 x.frm, .int .i64 x.to, .int .i64 x.term, .int .i64 x.idx, .int .i64 x.lt, .bool x.yes]
def Bal.val (x : Bal) : Value := .agg #[.int .i64 x.kind, .int .i64 x.frm, .int .i64 x.to, .int .i64 x.term, .int .i64 x.idx, .int .i64 x.lt, .bool x.yes]
def b0 : Bal := ⟨0, 0, 0, 0, 0, 0, false⟩
def rowB (xs : List Bal) : List Value := xs.flatMap Bal.cells
theorem rowB_append (a b : List Bal) : rowB (a ++ b) = rowB a ++ rowB b := by simp [rowB]
theorem rowB_len (a : List Bal) : (rowB a).length = a.length * 7 := by
  induction a with
  | nil => rfl
  | cons x a ih => unfold rowB at *; rw [List.flatMap_cons, List.length_append, ih, List.length_cons]; show 7 + _ = _; omega
theorem rowB_at : ∀ (a : List Bal) (k j : Nat), k < a.length → j < 7 → (rowB a)[k * 7 + j]? = (a.getD k b0).cells[j]?
  | [], k, j, h, _ => by simp at h
  | x :: a, 0, j, h, hj => by
    unfold rowB
    rw [List.flatMap_cons, List.getElem?_append_left (by show 0 * 7 + j < 7; omega)]
    simp
  | x :: a, k + 1, j, h, hj => by
    have ih := rowB_at a k j (by simp at h; omega) hj
    unfold rowB at *
    rw [List.flatMap_cons, List.getElem?_append_right (by show 7 ≤ (k + 1) * 7 + j; omega)]
    show (List.flatMap Bal.cells a)[(k + 1) * 7 + j - 7]? = _
    rw [show (k + 1) * 7 + j - 7 = k * 7 + j by omega, ih]
    simp
theorem rowB_one (a : List Bal) : ∀ u ∈ rowB a, u.oneCell' = true := by
  intro u hu
  simp only [rowB, List.mem_flatMap] at hu
  obtain ⟨x, _, hx⟩ := hu
  simp [Bal.cells] at hx
  rcases hx with rfl | rfl | rfl | rfl | rfl | rfl | rfl <;> rfl
set_option maxRecDepth 100000 in
theorem ballot_info : ∃ i, Tryz.prog.info? 125 = some i ∧ i.zero = some (.agg #[.int .i64 0, .int .i64 0, .int .i64 0, .int .i64 0, .int .i64 0, .int .i64 0, .bool false]) ∧ i.size = 7 ∧ i.bytes = 56 := by
  have h : (Tryz.prog.info? 125).map (fun i => (i.zero, i.size, i.bytes)) = some (some (.agg #[.int .i64 0, .int .i64 0, .int .i64 0, .int .i64 0, .int .i64 0, .int .i64 0, .bool false]), 7, 56) := by kernel_rfl
  cases hq : Tryz.prog.info? 125 with
  | none => simp [hq] at h
  | some i => simp [hq] at h; exact ⟨i, rfl, h⟩
/-- a slice of ballots that can be read -/
def RdB (w : World) (A : Option Addr) (n : Nat) (xs : List Bal) : Prop :=
  xs.length = n ∧ n ≤ maxLen ∧ (0 < n → ∃ b off, A = some ⟨b, off, none⟩ ∧ ∀ j v, (rowB xs)[j]? = some v → w.cell? ⟨b, off + j, none⟩ = some v)
theorem RdB.nil (w : World) (A : Option Addr) : RdB w A 0 [] := ⟨rfl, by unfold maxLen; omega, fun h => by omega⟩
theorem RdB.below {w w' : World} {A : Option Addr} {n : Nat} {xs : List Bal} (h : RdB w A n xs) (hb : Below w.heap.size w w') : RdB w' A n xs := by
  obtain ⟨h1, h2, h3⟩ := h
  refine ⟨h1, h2, fun hn => ?_⟩
  obtain ⟨b, off, rfl, hc⟩ := h3 hn
  exact ⟨b, off, rfl, fun j v hj => (hb.cell (p := ⟨b, off + j, none⟩) (lt_of_cell (hc j v hj))).trans (hc j v hj)⟩
theorem RdB.fr {S : List Nat} {w w' : World} {A : Option Addr} {n : Nat} {xs : List Bal} (h : RdB w A n xs) (hf : Dk.Fr S w w') (ha : ∀ a, A = some a → a.block ∉ S) : RdB w' A n xs := by
  obtain ⟨h1, h2, h3⟩ := h
  refine ⟨h1, h2, fun hn => ?_⟩
  obtain ⟨b, off, rfl, hc⟩ := h3 hn
  exact ⟨b, off, rfl, fun j v hj => (World.cell?_of_block (w := w) (hf.block b (lt_of_cell (hc j v hj)) (ha _ rfl))).trans (hc j v hj)⟩
theorem RdB.elem {w : World} {A : Option Addr} {n : Nat} {xs : List Bal} (h : RdB w A n xs) (k : Nat) (hk : k < n) : ∃ b off, A = some ⟨b, off, none⟩ ∧ w.cell? ⟨b, off + k * 7, none⟩ = some (.int .i64 (xs.getD k b0).kind) ∧ w.cell? ⟨b, off + k * 7 + 1, none⟩ = some (.int .i64 (xs.getD k b0).frm) ∧ w.cell? ⟨b, off + k * 7 + 2, none⟩ = some (.int .i64 (xs.getD k b0).to) ∧ w.cell? ⟨b, off + k * 7 + 3, none⟩ = some (.int .i64 (xs.getD k b0).term) ∧ w.cell? ⟨b, off + k * 7 + 4, none⟩ = some (.int .i64 (xs.getD k b0).idx) ∧ w.cell? ⟨b, off + k * 7 + 5, none⟩ = some (.int .i64 (xs.getD k b0).lt) ∧ w.cell? ⟨b, off + k * 7 + 6, none⟩ = some (.bool (xs.getD k b0).yes) := by
  obtain ⟨b, off, hA, hc⟩ := h.2.2 (by omega)
  have hl : k < xs.length := by have := h.1; omega
  have key : ∀ j, j < 7 → ∀ v, (xs.getD k b0).cells[j]? = some v → w.cell? ⟨b, off + k * 7 + j, none⟩ = some v := by
    intro j hj v hv
    have := hc (k * 7 + j) v (by rw [rowB_at xs k j hl hj]; exact hv)
    rw [← Nat.add_assoc] at this
    exact this
  exact ⟨b, off, hA, key 0 (by omega) _ rfl, key 1 (by omega) _ rfl, key 2 (by omega) _ rfl, key 3 (by omega) _ rfl, key 4 (by omega) _ rfl, key 5 (by omega) _ rfl, key 6 (by omega) _ rfl⟩
end Go.Proofs.YtjadfpcipicckaaGreat.El
