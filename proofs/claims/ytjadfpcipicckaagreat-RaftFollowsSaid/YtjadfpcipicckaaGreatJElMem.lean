/-
  Several texts in one: Layer 10 in memory: a node's block, its map of answers, its group's slices. Conditions: as each theorem states. Layer 10, in the program: validNode, validTerm, validHard, isOther, newer, lead, stepDown, said, outcome. Conditions: as each theorem states. Layer 10, in the program: outcome, begin, record, grant, newer, validHard. Conditions: as each theorem states.
-/
import Derived.Test.YtjadfpcipicckaaGreatJElMath
import Derived.Test.YtjadfpcipicckaaGreatJQuBase
import Derived.Test.YtjadfpcipicckaaGreatJFieldBase
import Derived.Maps.OwnSet
import Derived.Maps.Ext
import Derived.Test.YtjadfpcipicckaaGreatJQuV2
import Derived.Deep.RegionHeld3
import Derived.Deep.RegionWith
import Derived.Deep.RegionLaw
namespace Go.Proofs.YtjadfpcipicckaaGreat.El
open Go.RowKit Go.Proofs.YtjadfpcipicckaaGreat.Qu Go.Proofs.YtjadfpcipicckaaGreat.Fld
set_option linter.unusedVariables false

/-! ### the map of answers -/
theorem keyed : Maps.Keyed Tryz.prog 3 := Maps.int_keyed Tryz.underlying3
theorem wf64 {k : Int} (h : -9223372036854775808 ≤ k ∧ k ≤ 9223372036854775807) : (Lit.int .i64 k).wf = true := by
  show (decide ((-9223372036854775808 : Int) ≤ k) && decide (k ≤ 9223372036854775807)) = true
  simp
  omega
theorem keyN {k : Int} (h : -9223372036854775808 ≤ k ∧ k ≤ 9223372036854775807) : keyOf Tryz.prog 3 (.int .i64 k) = some (.int .i64 k) := Maps.keyOf_int_mk Tryz.underlying3 (wf64 h)
def KeysN (D : DataW Value) : Prop := ∀ key, Maps.has D key = true → ∃ k, key = .int .i64 k ∧ okNode k = true
def MapA (w : World) (b : Nat) (am : Int → Int) : Prop :=
  ∃ D : DataW Value, w.ownsMap Tryz.prog 3 (plainElem (H := Value) Tryz.prog 177) b 15 D ∧ KeysN D ∧ (∀ k, D.atKey (.int .i64 k) (.lit (.int .i64 0)) = .lit (.int .i64 (am k)))
theorem key_lit (k : Int) : WideAt.IsKeyLit (.int .i64 k) := trivial
def litI : Lit → Int
  | .int _ a => a
  | _ => 0
/-- a map whose keys are numbers of nodes has fifteen entries at most -/
theorem size_nodes {D : DataW Value} (hc : Maps.Canon D) (hk : KeysN D) : Maps.size D ≤ 15 := by
  obtain ⟨es, rfl, hp, hl⟩ := hc
  have hkey : ∀ p ∈ es, ∃ k, p.1 = .int .i64 k ∧ okNode k = true := fun p hp' => hk p.1 (List.any_eq_true.2 ⟨p, hp', WideAt.sameKey_self (hl p hp')⟩)
  have h1 : upN 0 (es.map fun p => litI p.1) = true := by
    refine upN_of _ _ (fun x hx => ?_) ?_
    · obtain ⟨p, hp', rfl⟩ := List.mem_map.1 hx
      obtain ⟨k, he, ho⟩ := hkey p hp'
      rw [he]
      have := (okNode_iff k).1 ho
      show 0 < k ∧ k ≤ 15
      omega
    · rw [List.pairwise_map]
      refine hp.imp_of_mem fun {a b} ha hb hab => ?_
      obtain ⟨k, he, _⟩ := hkey a ha
      obtain ⟨k', he', _⟩ := hkey b hb
      rw [he, he'] at hab ⊢
      simpa [Lit.before, litI] using hab
  have h2 := upN_len _ 0 h1 (by omega)
  rw [List.length_map] at h2
  show es.length ≤ 15
  omega
theorem tightM {w : World} {b n : Nat} {D : DataW Value} (h : w.ownsMap Tryz.prog 3 (plainElem (H := Value) Tryz.prog 177) b n D) (hk : KeysN D) : w.ownsMap Tryz.prog 3 (plainElem (H := Value) Tryz.prog 177) b 15 D := by
  have hs := size_nodes (h.canon keyed) hk
  obtain ⟨es, clock, h1, h2, h3, h4⟩ := h
  refine ⟨es, clock, h1, h2, ?_, h4⟩
  have := congrArg Maps.size h4
  have e1 : Maps.size (DataW.map ((es.toList.map (WideElems.rg Tryz.prog 3 (plainElem (H := Value) Tryz.prog 177))).foldr DataW.insert [])) = es.size := by simp [Maps.size, length_sorted]
  omega
set_option maxRecDepth 100000 in
theorem zero_run (w : World) : (zeroValue 177).run Tryz.prog w = .ok (.int .i64 0) w := by kernel_rfl
set_option maxRecDepth 100000 in
theorem MapA.look {w : World} {b : Nat} {am : Int → Int} (h : MapA w b am) {k : Int} (hk : -9223372036854775808 ≤ k ∧ k ≤ 9223372036854775807) :
    (Instr.lookup 88 (.map (some b)) (.int .i64 k) false).run Tryz.prog w = .ok (.int .i64 (am k)) w := by
  obtain ⟨D, h1, _, h3⟩ := h
  obtain ⟨c, hrun, hat, _⟩ := h1.lookup_int keyed Tryz.underlying88 Tryz.underlying177 (zero_run w) (keyN hk)
  rw [h3 k] at hat
  injection hat with hat
  injection hat with _ hat
  rw [hrun, hat]
set_option maxRecDepth 100000 in
theorem MapA.store {w : World} {b : Nat} {am : Int → Int} (h : MapA w b am) {k : Int} (hk : okNode k = true) {v : Int} (hv : -9223372036854775808 ≤ v ∧ v ≤ 9223372036854775807) :
    ∃ w', (Instr.mapUpdate 88 (.map (some b)) (.int .i64 k) (.int .i64 v)).run Tryz.prog w = .ok () w' ∧ MapA w' b (setA am k v) ∧ w.mapTurned w' b := by
  obtain ⟨D, h1, h2, h3⟩ := h
  have hki := (okNode_iff k).1 hk
  obtain ⟨w', hr, ho, ht⟩ := h1.store keyed Tryz.underlying88 (by unfold maxLen; omega) (keyN (k := k) ⟨by omega, by omega⟩) (plainElem_int Tryz.underlying177 (wf64 hv))
  have hK : KeysN (D.put (.int .i64 k) (.lit (.int .i64 v))) := by
    intro key hh
    by_cases he : key = .int .i64 k
    · exact ⟨k, he, hk⟩
    · rw [Maps.has_put_other he] at hh
      exact h2 key hh
  refine ⟨w', hr, ⟨_, tightM ho hK, hK, fun x => ?_⟩, ht⟩
  unfold setA
  by_cases hx : x = k
  · rw [if_pos hx, hx, Maps.atKey_put_same h1.isMap (key_lit k)]
  · rw [if_neg hx, Maps.atKey_put_other (by intro he; injection he with _ he; exact hx he)]
    exact h3 x
set_option maxRecDepth 100000 in
theorem MapA.clear {w : World} {b : Nat} {am : Int → Int} (h : MapA w b am) :
    ∃ w', (∀ ty, (Builtin.clear_ #[88] ty #[.map (some b)]).run Tryz.prog w = .ok (.tuple #[]) w') ∧ MapA w' b noneA ∧ w.mapTurned w' b := by
  obtain ⟨D, ⟨es, clock, hb, F, hs, hD⟩, h2, h3⟩ := h
  refine ⟨ChangeMaps.setBlock w b (.map #[] clock), fun ty => ?_, ⟨.map [], ⟨#[], clock, ChangeMaps.heap_setBlock_same hb _, ?_, by simp, by simp⟩, fun key hh => (by cases hh), fun k => rfl⟩, ⟨es, clock, #[], clock, hb, rfl⟩⟩
  · simp [Builtin.clear_, run_underlying Tryz.underlying88, MapKept.run_getObj_map hb, MapKept.run_setObj_map _ hb, Result.andThen, ChangeMaps.setBlock]
  · exact ⟨by simp, MapKept.stamped_empty clock, by simp⟩
theorem MapA.new (w : World) : MapA (w.alloc (.map #[] 0)) w.heap.size noneA :=
  ⟨.map [], (World.ownsMap_made w _ _ _).mono (by omega), fun key hh => (by cases hh), fun k => rfl⟩
theorem MapA.of {w w' : World} {b : Nat} {am : Int → Int} (h : MapA w b am) (hb : w'.heap[b]? = w.heap[b]?) : MapA w' b am := by
  obtain ⟨D, ⟨es, clock, h1, h2⟩, h3⟩ := h
  exact ⟨D, ⟨es, clock, hb.trans h1, h2⟩, h3⟩
theorem MapA.lt {w : World} {b : Nat} {am : Int → Int} (h : MapA w b am) : b < w.heap.size := by
  obtain ⟨D, h1, _⟩ := h
  exact h1.lt

/-! ### a node -/
structure Pl where
  g : Nat
  b : Nat
  VA : Option Addr
  vc : Nat
  LA : Option Addr
  lc : Nat
def ndC (p : Pl) (s : St) : Array Value := #[.int .i64 s.id, .int .i64 s.pat, .int .i64 s.term, .int .i64 s.vote, .slice p.VA s.vs.length p.vc, .slice p.LA s.ls.length p.lc, .int .i64 s.role, .int .i64 s.lead, .int .i64 s.wait, .int .i64 s.lim, .map (some p.b)]
def Nd (w : World) (p : Pl) (s : St) : Prop := Blk w p.g (ndC p s) 90
structure Im (w : World) (p : Pl) (s : St) : Prop where
  blk : Nd w p s
  map : MapA w p.b s.am
  vs : RdI w p.VA s.vs.length s.vs
  ls : RdI w p.LA s.ls.length s.ls
  va : ∀ a, p.VA = some a → a.block ≠ p.g ∧ a.block ≠ p.b
  la : ∀ a, p.LA = some a → a.block ≠ p.g ∧ a.block ≠ p.b
  ne : p.g ≠ p.b
  ok : s.Ok
theorem Nd.cells {w : World} {p : Pl} {s : St} (h : Nd w p s) : w.cell? ⟨p.g, 0, none⟩ = some (.int .i64 s.id) ∧ w.cell? ⟨p.g, 1, none⟩ = some (.int .i64 s.pat) ∧ w.cell? ⟨p.g, 2, none⟩ = some (.int .i64 s.term) ∧ w.cell? ⟨p.g, 3, none⟩ = some (.int .i64 s.vote) ∧ w.cell? ⟨p.g, 4, none⟩ = some (.slice p.VA s.vs.length p.vc) ∧ w.cell? ⟨p.g, 5, none⟩ = some (.slice p.LA s.ls.length p.lc) ∧ w.cell? ⟨p.g, 6, none⟩ = some (.int .i64 s.role) ∧ w.cell? ⟨p.g, 7, none⟩ = some (.int .i64 s.lead) ∧ w.cell? ⟨p.g, 8, none⟩ = some (.int .i64 s.wait) ∧ w.cell? ⟨p.g, 9, none⟩ = some (.int .i64 s.lim) ∧ w.cell? ⟨p.g, 10, none⟩ = some (.map (some p.b)) :=
  ⟨Blk.cell h 0 _ rfl, Blk.cell h 1 _ rfl, Blk.cell h 2 _ rfl, Blk.cell h 3 _ rfl, Blk.cell h 4 _ rfl, Blk.cell h 5 _ rfl, Blk.cell h 6 _ rfl, Blk.cell h 7 _ rfl, Blk.cell h 8 _ rfl, Blk.cell h 9 _ rfl, Blk.cell h 10 _ rfl⟩
theorem rdI_fr {S : List Nat} {w w' : World} {A : Option Addr} {n : Nat} {l : List Int} (h : RdI w A n l) (hf : Dk.Fr S w w') (ha : ∀ a, A = some a → a.block ∉ S) : RdI w' A n l := by
  obtain ⟨h1, h2, h3⟩ := h
  refine ⟨h1, h2, fun hn => ?_⟩
  obtain ⟨b, off, rfl, hc⟩ := h3 hn
  exact ⟨b, off, rfl, fun i hi => (World.cell?_of_block (w := w) (hf.block b (lt_of_cell (hc i hi)) (ha _ rfl))).trans (hc i hi)⟩
/-- the blocks of a node that its calls may change -/
def Pl.ft (p : Pl) : List Nat := [p.g, p.b]
/-- all blocks that it reads -/
def Pl.all (p : Pl) : List Nat := p.g :: p.b :: (p.VA.map Addr.block).toList ++ (p.LA.map Addr.block).toList
theorem Im.fr {S : List Nat} {w w' : World} {p : Pl} {s : St} (h : Im w p s) (hf : Dk.Fr S w w') (hd : ∀ i ∈ p.all, i ∉ S) : Im w' p s :=
  ⟨(hf.block _ (Blk.lt h.blk) (hd _ (by simp [Pl.all]))).trans h.blk, h.map.of (hf.block _ h.map.lt (hd _ (by simp [Pl.all]))), rdI_fr h.vs hf (fun a ha => hd _ (by simp [Pl.all, ha])), rdI_fr h.ls hf (fun a ha => hd _ (by simp [Pl.all, ha])), h.va, h.la, h.ne, h.ok⟩
theorem Im.below {w w' : World} {p : Pl} {s : St} (h : Im w p s) (hb : Below w.heap.size w w') : Im w' p s := h.fr (S := []) (Dk.Fr.below hb) (fun i _ hi => by cases hi)
/-- what was read before is read behind a change of the node's own two blocks -/
theorem Im.turn {w w' : World} {p : Pl} {s s' : St} (h : Im w p s) (hf : Dk.Fr p.ft w w') (hb : Nd w' p s') (hm : MapA w' p.b s'.am) (hv : s'.vs = s.vs) (hl : s'.ls = s.ls) (ok : s'.Ok) : Im w' p s' := by
  have hva : ∀ a, p.VA = some a → a.block ∉ p.ft := fun a ha hm => by
    have := h.va a ha
    simp only [Pl.ft, List.mem_cons, List.not_mem_nil, or_false] at hm
    omega
  have hla : ∀ a, p.LA = some a → a.block ∉ p.ft := fun a ha hm => by
    have := h.la a ha
    simp only [Pl.ft, List.mem_cons, List.not_mem_nil, or_false] at hm
    omega
  exact ⟨hb, hm, by rw [hv]; exact rdI_fr h.vs hf hva, by rw [hl]; exact rdI_fr h.ls hf hla, h.va, h.la, h.ne, ok⟩
/-- what a call leaves of a node -/
structure Did (w w' : World) (p : Pl) (s' : St) : Prop where
  im : Im w' p s'
  fr : Dk.Fr p.ft w w'
theorem Did.same {w w' : World} {p : Pl} {s : St} (h : Im w p s) (hb : Below w.heap.size w w') : Did w w' p s := ⟨h.below hb, Dk.Fr.below hb⟩
theorem Did.then {w w1 w' : World} {p : Pl} {s1 s' : St} (h : Did w w1 p s1) (k : Did w1 w' p s') : Did w w' p s' := ⟨k.im, h.fr.same k.fr⟩
theorem Did.to {w w1 w' : World} {p : Pl} {s1 : St} (h : Did w w1 p s1) (hb : Below w1.heap.size w1 w') : Did w w' p s1 := ⟨h.im.below hb, h.fr.same (Dk.Fr.below hb)⟩
theorem Did.past {w w1 w' : World} {p : Pl} {s' : St} (hb : Below w.heap.size w w1) (k : Did w1 w' p s') : Did w w' p s' := ⟨k.im, (Dk.Fr.below hb).same k.fr⟩
/-- a cell of the node's block is written -/
theorem Im.set {w : World} {p : Pl} {s s' : St} (h : Im w p s) (i : Nat) (v : Value) (hc : (ndC p s).setIfInBounds i v = ndC p s') (hi : i < 11) (ha : s'.am = s.am) (hv : s'.vs = s.vs) (hl : s'.ls = s.ls) (ok : s'.Ok) : Did w (w.setCell ⟨p.g, i, none⟩ v) p s' := by
  have hf : Dk.Fr p.ft w (w.setCell ⟨p.g, i, none⟩ v) := (Dk.Fr.refl _ _).setCell _ (.inl (by simp [Pl.ft])) _
  refine ⟨h.turn hf ?_ ?_ hv hl ok, hf⟩
  · unfold Nd; rw [← hc]; exact Blk.set h.blk i v (by show i < 11; exact hi)
  · rw [ha]; exact h.map.of (Below.heap_setCell _ _ _ _ (Ne.symm h.ne))
/-- the map was changed -/
theorem Im.mapped {w w' : World} {p : Pl} {s s' : St} (h : Im w p s) (ht : w.mapTurned w' p.b) (hm : MapA w' p.b s'.am) (hc : ndC p s = ndC p s') (hv : s'.vs = s.vs) (hl : s'.ls = s.ls) (ok : s'.Ok) : Did w w' p s' := by
  have hf : Dk.Fr p.ft w w' := (Dk.Fr.refl _ _).turned ht (.inl (by simp [Pl.ft]))
  refine ⟨h.turn hf ?_ hm hv hl ok, hf⟩
  unfold Nd
  rw [← hc]
  have : w'.heap[p.g]? = w.heap[p.g]? := ht.grown.block _ (Blk.lt h.blk) (by intro he; injection he with he; exact h.ne he)
  exact this.trans h.blk

/-! ### ballots -/
def Bal.cells (x : Bal) : List Value := [.int .i64 x.kind, .int .i64 x.frm, .int .i64 x.to, .int .i64 x.term, .int .i64 x.idx, .int .i64 x.lt, .bool x.yes]
def Bal.val (x : Bal) : Value := .agg #[.int .i64 x.kind, .int .i64 x.frm, .int .i64 x.to, .int .i64 x.term, .int .i64 x.idx, .int .i64 x.lt, .bool x.yes]
def b0 : Bal := ⟨0, 0, 0, 0, 0, 0, false⟩
def rowB (xs : List Bal) : List Value := xs.flatMap Bal.cells
theorem rowB_append (a b : List Bal) : rowB (a ++ b) = rowB a ++ rowB b := by simp [rowB]
theorem rowB_len (a : List Bal) : (rowB a).length = a.length * 7 := by
  induction a with
  | nil => rfl
  | cons x a ih => unfold rowB at *; rw [List.flatMap_cons, List.length_append, ih, List.length_cons]; show 7 + _ = _; omega
theorem rowB_at : ∀ (a : List Bal) (k j : Nat), k < a.length → j < 7 → (rowB a)[k * 7 + j]? = (a.getD k b0).cells[j]?
  | [], k, j, h, _ => by simp at h
  | x :: a, 0, j, h, hj => by
    unfold rowB
    rw [List.flatMap_cons, List.getElem?_append_left (by show 0 * 7 + j < 7; omega)]
    simp
  | x :: a, k + 1, j, h, hj => by
    have ih := rowB_at a k j (by simp at h; omega) hj
    unfold rowB at *
    rw [List.flatMap_cons, List.getElem?_append_right (by show 7 ≤ (k + 1) * 7 + j; omega)]
    show (List.flatMap Bal.cells a)[(k + 1) * 7 + j - 7]? = _
    rw [show (k + 1) * 7 + j - 7 = k * 7 + j by omega, ih]
    simp
theorem rowB_one (a : List Bal) : ∀ u ∈ rowB a, u.oneCell' = true := by
  intro u hu
  simp only [rowB, List.mem_flatMap] at hu
  obtain ⟨x, _, hx⟩ := hu
  simp [Bal.cells] at hx
  rcases hx with rfl | rfl | rfl | rfl | rfl | rfl | rfl <;> rfl
set_option maxRecDepth 100000 in
theorem ballot_info : ∃ i, Tryz.prog.info? 125 = some i ∧ i.zero = some (.agg #[.int .i64 0, .int .i64 0, .int .i64 0, .int .i64 0, .int .i64 0, .int .i64 0, .bool false]) ∧ i.size = 7 ∧ i.bytes = 56 := by
  have h : (Tryz.prog.info? 125).map (fun i => (i.zero, i.size, i.bytes)) = some (some (.agg #[.int .i64 0, .int .i64 0, .int .i64 0, .int .i64 0, .int .i64 0, .int .i64 0, .bool false]), 7, 56) := by kernel_rfl
  cases hq : Tryz.prog.info? 125 with
  | none => simp [hq] at h
  | some i => simp [hq] at h; exact ⟨i, rfl, h⟩
/-- a slice of ballots that can be read -/
def RdB (w : World) (A : Option Addr) (n : Nat) (xs : List Bal) : Prop :=
  xs.length = n ∧ n ≤ maxLen ∧ (0 < n → ∃ b off, A = some ⟨b, off, none⟩ ∧ ∀ j v, (rowB xs)[j]? = some v → w.cell? ⟨b, off + j, none⟩ = some v)
theorem RdB.nil (w : World) (A : Option Addr) : RdB w A 0 [] := ⟨rfl, by unfold maxLen; omega, fun h => by omega⟩
theorem RdB.below {w w' : World} {A : Option Addr} {n : Nat} {xs : List Bal} (h : RdB w A n xs) (hb : Below w.heap.size w w') : RdB w' A n xs := by
  obtain ⟨h1, h2, h3⟩ := h
  refine ⟨h1, h2, fun hn => ?_⟩
  obtain ⟨b, off, rfl, hc⟩ := h3 hn
  exact ⟨b, off, rfl, fun j v hj => (hb.cell (p := ⟨b, off + j, none⟩) (lt_of_cell (hc j v hj))).trans (hc j v hj)⟩
theorem RdB.fr {S : List Nat} {w w' : World} {A : Option Addr} {n : Nat} {xs : List Bal} (h : RdB w A n xs) (hf : Dk.Fr S w w') (ha : ∀ a, A = some a → a.block ∉ S) : RdB w' A n xs := by
  obtain ⟨h1, h2, h3⟩ := h
  refine ⟨h1, h2, fun hn => ?_⟩
  obtain ⟨b, off, rfl, hc⟩ := h3 hn
  exact ⟨b, off, rfl, fun j v hj => (World.cell?_of_block (w := w) (hf.block b (lt_of_cell (hc j v hj)) (ha _ rfl))).trans (hc j v hj)⟩
theorem RdB.elem {w : World} {A : Option Addr} {n : Nat} {xs : List Bal} (h : RdB w A n xs) (k : Nat) (hk : k < n) : ∃ b off, A = some ⟨b, off, none⟩ ∧ w.cell? ⟨b, off + k * 7, none⟩ = some (.int .i64 (xs.getD k b0).kind) ∧ w.cell? ⟨b, off + k * 7 + 1, none⟩ = some (.int .i64 (xs.getD k b0).frm) ∧ w.cell? ⟨b, off + k * 7 + 2, none⟩ = some (.int .i64 (xs.getD k b0).to) ∧ w.cell? ⟨b, off + k * 7 + 3, none⟩ = some (.int .i64 (xs.getD k b0).term) ∧ w.cell? ⟨b, off + k * 7 + 4, none⟩ = some (.int .i64 (xs.getD k b0).idx) ∧ w.cell? ⟨b, off + k * 7 + 5, none⟩ = some (.int .i64 (xs.getD k b0).lt) ∧ w.cell? ⟨b, off + k * 7 + 6, none⟩ = some (.bool (xs.getD k b0).yes) := by
  obtain ⟨b, off, hA, hc⟩ := h.2.2 (by omega)
  have hl : k < xs.length := by have := h.1; omega
  have key : ∀ j, j < 7 → ∀ v, (xs.getD k b0).cells[j]? = some v → w.cell? ⟨b, off + k * 7 + j, none⟩ = some v := by
    intro j hj v hv
    have := hc (k * 7 + j) v (by rw [rowB_at xs k j hl hj]; exact hv)
    rw [← Nat.add_assoc] at this
    exact this
  exact ⟨b, off, hA, key 0 (by omega) _ rfl, key 1 (by omega) _ rfl, key 2 (by omega) _ rfl, key 3 (by omega) _ rfl, key 4 (by omega) _ rfl, key 5 (by omega) _ rfl, key 6 (by omega) _ rfl⟩
end Go.Proofs.YtjadfpcipicckaaGreat.El

namespace Go.Proofs.YtjadfpcipicckaaGreat.El
open Go.RowKit Go.Proofs.YtjadfpcipicckaaGreat.Qu Go.Proofs.YtjadfpcipicckaaGreat.Fld
set_option linter.unusedVariables false

theorem validNode_any (n : Int) (w : World) : Calls Tryz.prog 38 #[.int .i64 n] w fun e w' => e = .returned (.bool (okNode n)) ∧ w = w' := by
  have he : okNode n = (decide (1 ≤ n) && decide (n ≤ 15)) := rfl
  by_cases h0 : 1 ≤ n
  · by_cases h1 : n ≤ 15
    · rw [he, decide_eq_true h0, decide_eq_true h1]
      clear he
      go_enter Tryz.func38, Tryz.ntmps38
      go_wp2
      go_ret
      exact ⟨rfl, rfl⟩
    · have h2 : decide (n ≤ 15) = false := decide_eq_false h1
      rw [he, decide_eq_true h0, h2]
      clear he
      go_enter Tryz.func38, Tryz.ntmps38
      go_wp2
      go_ret
      exact ⟨rfl, rfl⟩
  · have h2 : decide (1 ≤ n) = false := decide_eq_false h0
    rw [he, h2]
    clear he
    go_enter Tryz.func38, Tryz.ntmps38
    go_wp2
    go_ret
    exact ⟨rfl, rfl⟩
theorem validTerm_any (n : Int) (w : World) : Calls Tryz.prog 79 #[.int .i64 n] w fun e w' => e = .returned (.bool (okTerm n)) ∧ w = w' := by
  have he : okTerm n = (decide (0 ≤ n) && decide (n ≤ 1099511627776)) := rfl
  by_cases h0 : 0 ≤ n
  · by_cases h1 : n ≤ 1099511627776
    · rw [he, decide_eq_true h0, decide_eq_true h1]
      clear he
      go_enter Tryz.func79, Tryz.ntmps79
      go_wp2
      go_ret
      exact ⟨rfl, rfl⟩
    · have h2 : decide (n ≤ 1099511627776) = false := decide_eq_false h1
      rw [he, decide_eq_true h0, h2]
      clear he
      go_enter Tryz.func79, Tryz.ntmps79
      go_wp2
      go_ret
      exact ⟨rfl, rfl⟩
  · have h2 : decide (0 ≤ n) = false := decide_eq_false h0
    rw [he, h2]
    clear he
    go_enter Tryz.func79, Tryz.ntmps79
    go_wp2
    go_ret
    exact ⟨rfl, rfl⟩
theorem lead_any (p : Pl) (s : St) (w : World) (h : Im w p s) : Calls Tryz.prog 128 #[.pointer (some ⟨p.g, 0, none⟩)] w fun e w' => e = .returned (.tuple #[]) ∧ Did w w' p (leadS s) := by
  have h1 := h.set 6 (.int .i64 3) (s' := { s with role := 3 }) rfl (by omega) rfl rfl rfl (role_ok h.ok (by omega))
  have h2 := h1.im.set 7 (.int .i64 s.id) (s' := leadS s) rfl (by omega) rfl rfl rfl (leadS_ok h.ok)
  have HD := Lib.hid (h1.then h2)
  obtain ⟨c0, _, _, _, _, _, c6, c7, _, _, _⟩ := h.blk.cells
  have f6 := Blk.free h.blk 6
  have f7 := Blk.free h1.im.blk 7
  clear h h1 h2
  go_enter Tryz.func128, Tryz.ntmps128
  go_wp2
  go_end0
  exact ⟨rfl, HD.out⟩
set_option maxRecDepth 100000 in
set_option maxHeartbeats 1600000 in
theorem said_any (p : Pl) (s : St) (a : Int) (w : World) (h : Im w p s) : Calls Tryz.prog 136 #[.pointer (some ⟨p.g, 0, none⟩), .int .i64 a] w fun e w' => ∃ v, e = .returned v ∧ OwnI w w' v (saidL s.am a) := by
  have HIM := Lib.hid h
  have HT := Lib.hid (saidTo_succ s.am a)
  have HLE := Lib.hid (saidTo_len s.am a)
  clear h
  go_enter Tryz.func136, Tryz.ntmps136
  go_wp2_with fail
  go_loopw [5, 6] (fun v i wr => ∃ k : Nat, k ≤ 15 ∧ i = .int .i64 ((k : Int) + 1) ∧ OwnI w wr v (saidTo s.am a k)) (fun _ i _ => 16 - (intOf i).toNat)
  case atStart => exact ⟨0, Nat.zero_le _, rfl, OwnI.nil _ _ (Below.refl _ _)⟩
  case round =>
    obtain ⟨k, hk, rfl, hO⟩ := hrel
    have HO := Lib.hid hO
    have HI := Lib.hid (HIM.out.below hO.1)
    clear hO
    have c10 := HI.out.blk.cells.2.2.2.2.2.2.2.2.2.2
    by_cases hlt : k < 15
    · have hrun := HI.out.map.look (k := (k : Int) + 1) ⟨by omega, by omega⟩
      have hle := HLE.out k
      have HT1 := Lib.hid (HT.out k)
      generalize hrr : saidTo s.am a k = rr at *
      have q2 : decide ((k : Int) + 1 ≤ 15) = true := by simp; omega
      cases hb : (s.am ((k : Int) + 1) == a) with
      | true =>
        rw [hb] at HT1
        have HT2 := Lib.hid (show saidTo s.am a (k + 1) = rr ++ [(k : Int) + 1] by rw [HT1.out]; rfl)
        have HO2 := Lib.hid (HO.out.below (alloc_below wr (.cells #[.int .i64 ((k : Int) + 1)] 3)))
        go_wp2_with (at_builtin; refine wpList_append_ints rfl _ _ rfl w _ rr rfl HO2.out _ 1 1 [(k : Int) + 1] rfl (fun h => by cases h) (rdI_one wr ((k : Int) + 1)) (by omega) ?_; intro v3 w3 hO3 _; have HO3 := Lib.hid hO3; clear hO3)
        go_roundw
        case rel => exact ⟨k + 1, by omega, by go_num, by rw [HT2.out]; exact HO3.out⟩
        case measure => simp [intOf]; omega
      | false =>
        rw [hb] at HT1
        have HT2 := Lib.hid (show saidTo s.am a (k + 1) = rr by rw [HT1.out]; simp)
        go_wp2_with fail
        go_roundw
        case rel => exact ⟨k + 1, by omega, by go_num, by rw [HT2.out]; exact HO.out⟩
        case measure => simp [intOf]; omega
    · obtain rfl : k = 15 := by omega
      go_wp2
      go_ret
      exact ⟨_, rfl, HO.out⟩
end Go.Proofs.YtjadfpcipicckaaGreat.El

namespace Go.Proofs.YtjadfpcipicckaaGreat.El
open Go.RowKit Go.Proofs.YtjadfpcipicckaaGreat.Qu Go.Proofs.YtjadfpcipicckaaGreat.Fld
set_option linter.unusedVariables false

/-- the outcome: 0 open, 1 won, 2 lost -/
def outN (vs : List Int) (am : Int → Int) : Int := if wonA vs am then 1 else if lostA vs am then 2 else 0
theorem said15 (am : Int → Int) (a : Int) : (saidL am a).length ≤ 15 := saidTo_len am a 15
set_option maxRecDepth 100000 in
set_option maxHeartbeats 3200000 in
theorem outcome_any (p : Pl) (s : St) (w : World) (h : Im w p s) : Calls Tryz.prog 127 #[.pointer (some ⟨p.g, 0, none⟩)] w fun e w' => e = .returned (.int .i64 (outN s.vs s.am)) ∧ Below w.heap.size w w' := by
  have HB := Lib.hid (Below.refl w.heap.size w)
  have HS1 := Lib.hid (fun W (hW : Below w.heap.size w W) => said_any p s 1 W (h.below hW))
  have HS2 := Lib.hid (fun W (hW : Below w.heap.size w W) => said_any p s 2 W (h.below hW))
  have HL1 := Lib.hid (said15 s.am 1)
  have HL2 := Lib.hid (said15 s.am 2)
  have HW := Lib.hid (fun A k W (hW : Below w.heap.size w W) (hr : RdI W A (saidL s.am 1).length (saidL s.am 1)) => wins_any p.VA s.vs.length p.vc s.vs p.LA s.ls.length p.lc s.ls A (saidL s.am 1).length k (saidL s.am 1) W (h.below hW).vs (h.below hW).ls hr)
  have HX := Lib.hid (fun A k W (hW : Below w.heap.size w W) (hr : RdI W A (saidL s.am 2).length (saidL s.am 2)) => lost_any p.VA s.vs.length p.vc s.vs p.LA s.ls.length p.lc s.ls A (saidL s.am 2).length k (saidL s.am 2) W (h.below hW).vs (h.below hW).ls hr)
  rw [wins_said h.ok.grp] at HW
  rw [lost_said h.ok.grp] at HX
  have HA := Lib.hid (fun W (hW : Below w.heap.size w W) => And.intro (h.below hW).blk.cells.2.2.2.2.1 (h.below hW).blk.cells.2.2.2.2.2.1)
  have c4 := h.blk.cells.2.2.2.2.1
  have c5 := h.blk.cells.2.2.2.2.2.1
  unfold grpV at HW HX
  generalize saidL s.am 1 = l1 at *
  generalize saidL s.am 2 = l2 at *
  clear h
  cases hw : wonA s.vs s.am with
  | true =>
    have HO := Lib.hid (show outN s.vs s.am = 1 by unfold outN; rw [hw]; rfl)
    rw [hw] at HW
    rw [HO.out]
    go_enter Tryz.func127, Tryz.ntmps127
    go_wp2_with fail
    go_region_held3 (fun w' => w'.cell? ⟨p.g, 4, none⟩ = some (.slice p.VA s.vs.length p.vc) ∧ w'.cell? ⟨p.g, 5, none⟩ = some (.slice p.LA s.ls.length p.lc)) (first | exact ⟨by assumption, by assumption⟩ | go_keep) (first
      | (go_at_call 136; refine (HS1.out _ (by first | exact HB.out | exact HB.out.drew)).mono ?_; rintro e w1 ⟨v1, rfl, hO1⟩; obtain ⟨A1, k1, rfl, hr1, _, _, _, _⟩ := hO1.form (by have := HL1.out; omega); have HR1 := Lib.hid hr1; have HB := Lib.hid ((show Below w.heap.size w _ from by first | exact HB.out | exact HB.out.drew).trans (hO1.1.mono (by exact HB.out.size))); clear c4 c5 hO1 hr1; obtain ⟨c4, c5⟩ := HA.out _ HB.out)
      | (go_at_call 66; refine (HW.out _ _ _ (by first | exact HB.out | exact HB.out.drew) (by exact HR1.out)).mono ?_; rintro e w2 ⟨rfl, hb2⟩; have HB := Lib.hid ((show Below w.heap.size w _ from by first | exact HB.out | exact HB.out.drew).trans (hb2.mono (by exact HB.out.size))); clear c4 c5 hb2; obtain ⟨c4, c5⟩ := HA.out _ HB.out))
    all_goals
      go_wp2
      go_ret
      exact ⟨rfl, by first | exact HB.out | exact HB.out.drew⟩
  | false =>
    rw [hw] at HW
    cases hl : lostA s.vs s.am with
    | true =>
      have HO := Lib.hid (show outN s.vs s.am = 2 by unfold outN; rw [hw, hl]; rfl)
      rw [hl] at HX
      rw [HO.out]
      go_enter Tryz.func127, Tryz.ntmps127
      go_wp2_with fail
      go_region_held3 (fun w' => w'.cell? ⟨p.g, 4, none⟩ = some (.slice p.VA s.vs.length p.vc) ∧ w'.cell? ⟨p.g, 5, none⟩ = some (.slice p.LA s.ls.length p.lc)) (first | exact ⟨by assumption, by assumption⟩ | go_keep) (first
        | (go_at_call 136; refine (HS1.out _ (by first | exact HB.out | exact HB.out.drew)).mono ?_; rintro e w1 ⟨v1, rfl, hO1⟩; obtain ⟨A1, k1, rfl, hr1, _, _, _, _⟩ := hO1.form (by have := HL1.out; omega); have HR1 := Lib.hid hr1; have HB := Lib.hid ((show Below w.heap.size w _ from by first | exact HB.out | exact HB.out.drew).trans (hO1.1.mono (by exact HB.out.size))); clear c4 c5 hO1 hr1; obtain ⟨c4, c5⟩ := HA.out _ HB.out)
        | (go_at_call 66; refine (HW.out _ _ _ (by first | exact HB.out | exact HB.out.drew) (by exact HR1.out)).mono ?_; rintro e w2 ⟨rfl, hb2⟩; have HB := Lib.hid ((show Below w.heap.size w _ from by first | exact HB.out | exact HB.out.drew).trans (hb2.mono (by exact HB.out.size))); clear c4 c5 hb2; obtain ⟨c4, c5⟩ := HA.out _ HB.out))
      all_goals
        clear HR1
        go_wp2_with fail
        go_region_held3 (fun w' => w'.cell? ⟨p.g, 4, none⟩ = some (.slice p.VA s.vs.length p.vc) ∧ w'.cell? ⟨p.g, 5, none⟩ = some (.slice p.LA s.ls.length p.lc)) (first | exact ⟨by assumption, by assumption⟩ | go_keep) (first
          | (go_at_call 136; refine (HS2.out _ (by first | exact HB.out | exact HB.out.drew)).mono ?_; rintro e w3 ⟨v3, rfl, hO3⟩; obtain ⟨A3, k3, rfl, hr3, _, _, _, _⟩ := hO3.form (by have := HL2.out; omega); have HR3 := Lib.hid hr3; have HB := Lib.hid ((show Below w.heap.size w _ from by first | exact HB.out | exact HB.out.drew).trans (hO3.1.mono (by exact HB.out.size))); clear c4 c5 hO3 hr3; obtain ⟨c4, c5⟩ := HA.out _ HB.out)
          | (go_at_call 137; refine (HX.out _ _ _ (by first | exact HB.out | exact HB.out.drew) (by exact HR3.out)).mono ?_; rintro e w4 ⟨rfl, hb4⟩; have HB := Lib.hid ((show Below w.heap.size w _ from by first | exact HB.out | exact HB.out.drew).trans (hb4.mono (by exact HB.out.size))); clear c4 c5 hb4; obtain ⟨c4, c5⟩ := HA.out _ HB.out))
        all_goals
          go_wp2
          go_ret
          exact ⟨rfl, by first | exact HB.out | exact HB.out.drew⟩
    | false =>
      have HO := Lib.hid (show outN s.vs s.am = 0 by unfold outN; rw [hw, hl]; rfl)
      rw [hl] at HX
      rw [HO.out]
      go_enter Tryz.func127, Tryz.ntmps127
      go_wp2_with fail
      go_region_held3 (fun w' => w'.cell? ⟨p.g, 4, none⟩ = some (.slice p.VA s.vs.length p.vc) ∧ w'.cell? ⟨p.g, 5, none⟩ = some (.slice p.LA s.ls.length p.lc)) (first | exact ⟨by assumption, by assumption⟩ | go_keep) (first
        | (go_at_call 136; refine (HS1.out _ (by first | exact HB.out | exact HB.out.drew)).mono ?_; rintro e w1 ⟨v1, rfl, hO1⟩; obtain ⟨A1, k1, rfl, hr1, _, _, _, _⟩ := hO1.form (by have := HL1.out; omega); have HR1 := Lib.hid hr1; have HB := Lib.hid ((show Below w.heap.size w _ from by first | exact HB.out | exact HB.out.drew).trans (hO1.1.mono (by exact HB.out.size))); clear c4 c5 hO1 hr1; obtain ⟨c4, c5⟩ := HA.out _ HB.out)
        | (go_at_call 66; refine (HW.out _ _ _ (by first | exact HB.out | exact HB.out.drew) (by exact HR1.out)).mono ?_; rintro e w2 ⟨rfl, hb2⟩; have HB := Lib.hid ((show Below w.heap.size w _ from by first | exact HB.out | exact HB.out.drew).trans (hb2.mono (by exact HB.out.size))); clear c4 c5 hb2; obtain ⟨c4, c5⟩ := HA.out _ HB.out))
      all_goals
        clear HR1
        go_wp2_with fail
        go_region_held3 (fun w' => w'.cell? ⟨p.g, 4, none⟩ = some (.slice p.VA s.vs.length p.vc) ∧ w'.cell? ⟨p.g, 5, none⟩ = some (.slice p.LA s.ls.length p.lc)) (first | exact ⟨by assumption, by assumption⟩ | go_keep) (first
          | (go_at_call 136; refine (HS2.out _ (by first | exact HB.out | exact HB.out.drew)).mono ?_; rintro e w3 ⟨v3, rfl, hO3⟩; obtain ⟨A3, k3, rfl, hr3, _, _, _, _⟩ := hO3.form (by have := HL2.out; omega); have HR3 := Lib.hid hr3; have HB := Lib.hid ((show Below w.heap.size w _ from by first | exact HB.out | exact HB.out.drew).trans (hO3.1.mono (by exact HB.out.size))); clear c4 c5 hO3 hr3; obtain ⟨c4, c5⟩ := HA.out _ HB.out)
          | (go_at_call 137; refine (HX.out _ _ _ (by first | exact HB.out | exact HB.out.drew) (by exact HR3.out)).mono ?_; rintro e w4 ⟨rfl, hb4⟩; have HB := Lib.hid ((show Below w.heap.size w _ from by first | exact HB.out | exact HB.out.drew).trans (hb4.mono (by exact HB.out.size))); clear c4 c5 hb4; obtain ⟨c4, c5⟩ := HA.out _ HB.out))
        all_goals
          go_wp2
          go_ret
          exact ⟨rfl, by first | exact HB.out | exact HB.out.drew⟩
def begun (s : St) : St := { s with am := onlyA s.id }
theorem begun_ok {s : St} (h : s.Ok) : (begun s).Ok := ⟨h.id1, h.hard, h.grp, h.pat1, h.w0, h.lm, h.role, h.lead, onlyA_ok h.id1⟩
set_option maxRecDepth 100000 in
set_option maxHeartbeats 1600000 in
theorem begin_any (p : Pl) (s : St) (w : World) (h : Im w p s) : Calls Tryz.prog 108 #[.pointer (some ⟨p.g, 0, none⟩)] w fun e w' => e = .returned (.int .i64 (outN s.vs (onlyA s.id))) ∧ Did w w' p (begun s) := by
  obtain ⟨w1, hrun1, hm1, ht1⟩ := h.map.clear
  have h1 := h.mapped ht1 (s' := { s with am := noneA }) hm1 rfl rfl rfl ⟨h.ok.id1, h.ok.hard, h.ok.grp, h.ok.pat1, h.ok.w0, h.ok.lm, h.ok.role, h.ok.lead, fun k => .inl rfl⟩
  obtain ⟨w2, hrun2, hm2, ht2⟩ := (show MapA w1.drew p.b noneA from h1.im.map).store (k := s.id) h.ok.id1 (v := 1) (by omega)
  have h1d : Did w w1.drew p { s with am := noneA } := h1.to (below_dr w1 1)
  have h2 := h1d.im.mapped ht2 (s' := begun s) hm2 rfl rfl rfl (begun_ok h.ok)
  have HD := Lib.hid (h1d.then h2)
  have HO := Lib.hid (outcome_any p (begun s) w2 h2.im)
  obtain ⟨_, _, _, _, _, _, _, _, _, _, c10⟩ := h.blk.cells
  obtain ⟨d0, _, _, _, _, _, _, _, _, _, d10⟩ := h1.im.blk.cells
  clear h h1 h1d h2 hm1 hm2 ht1 ht2
  go_enter Tryz.func108, Tryz.ntmps108
  go_wp2_with fail
  go_region
  go_wp2_with fail
  refine HO.out.mono ?_
  rintro e w3 ⟨rfl, hb3⟩
  have HD3 := Lib.hid (HD.out.to hb3)
  clear hb3
  go_wp2
  go_ret
  exact ⟨rfl, HD3.out⟩
end Go.Proofs.YtjadfpcipicckaaGreat.El
