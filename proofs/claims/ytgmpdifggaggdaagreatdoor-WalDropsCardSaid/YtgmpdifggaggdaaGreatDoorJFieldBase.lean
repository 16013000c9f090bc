/-
  Several texts in one: Bytes in memory: slices that can be read (Rd, Sl), bytes that a call has made itself (Own), what append, make, a store and the conversion to a string do to them. Conditions: as each theorem states. Layer 4 in memory: which blocks a call may have changed (Fr), the disk's block (Dsk), the map of its files. Conditions: as each theorem states. Layer 6: 'run' takes one step after the other, up to the first error, whatever the steps are. Conditions: the steps are functions that can be entered; what each one leaves is as the caller says.
-/
import Derived.Test.YtgmpdifggaggdaaGreatDoorChecked
import Derived.Test.YtgmpdifggaggdaaGreatDoorFieldMath
import Derived.WalkKit
import Derived.WalkLawsBesides
import Derived.LoopTactic
import Derived.Outline
import Derived.IntWalk
import Derived.Lib.Hide
import Derived.Below
import Derived.Maps.AppendAt
import Derived.Laws.AppendOwnNone
import Derived.Laws.MakeOwn
import Derived.Deep.OwnRows
import Derived.Laws.BytesString
import Derived.Maps.OwnSet
import Derived.Shelf.Abstract
namespace Go.Proofs.YtgmpdifggaggdaaGreatDoor.Fld
open Go.RowKit

/-- a slice that holds the bytes zs -/
def Rd (w : World) (A : Option Addr) (n : Nat) (zs : List Int) : Prop :=
  zs.length = n ∧ n ≤ maxLen ∧ Bytes zs ∧ (0 < n → ∃ b off, A = some ⟨b, off, none⟩ ∧ ∀ i, i < n → w.cell? ⟨b, off + i, none⟩ = some (.int .u8 (zs.getD i 0)))
/-- the same, with its capacity and address -/
def Sl (w : World) (A : Option Addr) (n cap : Nat) (zs : List Int) : Prop := Rd w A n zs ∧ n ≤ cap ∧ cap ≤ maxLen ∧ (A = none → cap = 0) ∧ (∀ a, A = some a → a.spot = none)

theorem lt_of_cell {w : World} {a : Addr} {v : Value} (h : w.cell? a = some v) : a.block < w.heap.size := by
  rcases Nat.lt_or_ge a.block w.heap.size with h' | h'
  · exact h'
  · simp [World.cell?, Array.getElem?_eq_none h'] at h
theorem Rd.nil (w : World) : Rd w none 0 [] := ⟨rfl, by unfold maxLen; omega, fun c hc => by simp at hc, fun h => by omega⟩
theorem Rd.zero (w : World) (A : Option Addr) : Rd w A 0 [] := ⟨rfl, by unfold maxLen; omega, fun c hc => by simp at hc, fun h => by omega⟩
theorem Rd.of_same {w w' : World} {A : Option Addr} {n : Nat} {zs : List Int} (h : Rd w A n zs) (hs : ∀ (a : Addr) (c : Int), w.cell? a = some (.int .u8 c) → w'.cell? a = w.cell? a) : Rd w' A n zs := by
  obtain ⟨h1, h2, h3, h4⟩ := h
  refine ⟨h1, h2, h3, fun hn => ?_⟩
  obtain ⟨b, off, rfl, hc⟩ := h4 hn
  exact ⟨b, off, rfl, fun i hi => (hs _ _ (hc i hi)).trans (hc i hi)⟩
theorem Rd.below {w w' : World} {A : Option Addr} {n : Nat} {zs : List Int} (h : Rd w A n zs) (hb : Below w.heap.size w w') : Rd w' A n zs :=
  h.of_same fun _ _ hc => hb.cell (lt_of_cell hc)
theorem Sl.nil (w : World) : Sl w none 0 0 [] := ⟨Rd.nil w, by omega, by unfold maxLen; omega, fun _ => rfl, fun a h => by cases h⟩
theorem Sl.below {w w' : World} {A : Option Addr} {n cap : Nat} {zs : List Int} (h : Sl w A n cap zs) (hb : Below w.heap.size w w') : Sl w' A n cap zs := ⟨h.1.below hb, h.2⟩
theorem Rd.of_cells {w : World} {x : Addr} {len cap : Nat} {zs : List Int} (hl : len ≤ cap) (hm : cap ≤ maxLen) (hz : zs.length = cap)
    (hcell : ∀ i, i < zs.length → w.cell? (x.add i) = some (.int .u8 (zs.getD i 0))) (hwz : ∀ n ∈ zs, (Lit.int .u8 n).wf = true) : Rd w (some x) len (zs.take len) := by
  refine ⟨by rw [List.length_take]; omega, by omega, fun c hc => ?_, fun hn => ?_⟩
  · have := hwz c (List.mem_of_mem_take hc)
    simp [Lit.wf, IntKind.min, IntKind.max, IntKind.bits, IntKind.signed] at this
    omega
  · obtain ⟨b, off, spot⟩ := x
    have h0 := hcell 0 (by omega)
    have hspot : spot = none := by simpa [Addr.add] using World.cell?_spot h0
    subst hspot
    refine ⟨b, off, rfl, fun i hi => ?_⟩
    have := hcell i (by omega)
    rw [List.getD_eq_getElem?_getD, List.getElem?_take, if_pos hi, ← List.getD_eq_getElem?_getD, ← this]
    congr 1
    unfold Addr.add
    split <;> simp_all
theorem Rd.cut {w : World} {A : Option Addr} {n : Nat} {xs : List Int} (h : Rd w A n xs) (N : Nat) (hN : N ≤ n) : Rd w A N (xs.take N) := by
  obtain ⟨h1, h2, h3, h4⟩ := h
  refine ⟨by rw [List.length_take]; omega, by omega, bytes_take h3 N, fun hn => ?_⟩
  obtain ⟨b, off, rfl, hc⟩ := h4 (by omega)
  refine ⟨b, off, rfl, fun i hi => ?_⟩
  rw [hc i (by omega), List.getD_eq_getElem?_getD, List.getD_eq_getElem?_getD, List.getElem?_take, if_pos hi]
/-- where s[k:] begins -/
def past (a : Addr) (cap k : Nat) : Addr := if cap = k then a else ⟨a.block, a.off + k, none⟩
theorem Sl.tail {w : World} {b off n cap : Nat} {xs : List Int} (h : Sl w (some ⟨b, off, none⟩) n cap xs) (k : Nat) (hk : k ≤ n) : Sl w (some (past ⟨b, off, none⟩ cap k)) (n - k) (cap - k) (xs.drop k) := by
  obtain ⟨⟨h1, h2, h3, h4⟩, h5, h6, h7, h8⟩ := h
  refine ⟨⟨by rw [List.length_drop]; omega, by omega, bytes_drop h3 k, fun hn => ?_⟩, by omega, by omega, (fun h => by cases h), fun a ha => ?_⟩
  · obtain ⟨b', off', he, hcell⟩ := h4 (by omega)
    injection he with he
    injection he with e1 e2
    subst e1 e2
    refine ⟨b, off + k, by unfold past; rw [if_neg (by omega)], fun i hi => ?_⟩
    rw [Nat.add_assoc, hcell (k + i) (by omega)]
    rw [List.getD_eq_getElem?_getD, List.getD_eq_getElem?_getD, List.getElem?_drop]
  · injection ha with ha
    subst ha
    unfold past
    split <;> rfl
theorem past_form (b off cap k : Nat) : ∃ off', past ⟨b, off, none⟩ cap k = ⟨b, off', none⟩ := by
  unfold past
  split
  · exact ⟨_, rfl⟩
  · exact ⟨_, rfl⟩
theorem Rd.addr {w : World} {A : Option Addr} {n : Nat} {zs : List Int} (h : Rd w A n zs) (i : Nat) (hi : i < n) : ∃ b off, A = some ⟨b, off, none⟩ ∧ w.cell? ⟨b, off + i, none⟩ = some (.int .u8 (zs.getD i 0)) := by
  obtain ⟨b, off, e, hc⟩ := h.2.2.2 (by omega)
  exact ⟨b, off, e, hc i hi⟩
theorem getD_byte {xs : List Int} (h : Bytes xs) (i : Nat) (hi : i < xs.length) : 0 ≤ xs.getD i 0 ∧ xs.getD i 0 ≤ 255 := by
  have : xs.getD i 0 ∈ xs := by rw [List.getD_eq_getElem?_getD, List.getElem?_eq_getElem hi]; simp
  exact h _ this

/-! ### bytes of the call's own -/
def by8 (zs : List Int) : List Value := zs.map (fun c => .int .u8 c)
theorem by8_length (zs : List Int) : (by8 zs).length = zs.length := by simp [by8]
theorem by8_append (xs ys : List Int) : by8 (xs ++ ys) = by8 xs ++ by8 ys := by simp [by8]
theorem by8_at (zs : List Int) (i : Nat) (h : i < zs.length) : (by8 zs)[i]? = some (.int .u8 (zs.getD i 0)) := by simp [by8, h]
theorem by8_one (zs : List Int) : ∀ u ∈ by8 zs, u.oneCell' = true := by
  intro u hu
  simp only [by8, List.mem_map] at hu
  obtain ⟨c, _, rfl⟩ := hu
  rfl
theorem byte_info : ∃ i, Tryz.prog.info? 5 = some i ∧ i.zero = some (.int .u8 0) ∧ i.size = 1 ∧ i.bytes = 1 := by
  have h : (Tryz.prog.info? 5).map (fun i => (i.zero, i.size, i.bytes)) = some (some (.int .u8 0), 1, 1) := by kernel_rfl
  cases hq : Tryz.prog.info? 5 with
  | none => simp [hq] at h
  | some i => simp [hq] at h; exact ⟨i, rfl, h⟩

/-- v is a slice of bytes zs, in memory that was made behind w0; what was there at w0 is as it was -/
def Own (w0 w : World) (v : Value) (zs : List Int) : Prop := Below w0.heap.size w0 w ∧ Bytes zs ∧ w.ownsRow w0.heap.size 5 1 v zs.length (by8 zs)

theorem Own.sl {w0 w : World} {v : Value} {zs : List Int} (h : Own w0 w v zs) (n : Nat) (hn : zs.length = n) : ∃ A cap, v = .slice A n cap ∧ Sl w A n cap zs ∧ ∀ a, A = some a → w0.heap.size ≤ a.block := by
  subst hn
  obtain ⟨hb, hby, hlen, h⟩ := h
  rcases h with ⟨rfl, h0⟩ | ⟨g, cap, cur, rfl, hg, hh, hnc, hcm, hcs, hcu⟩
  · refine ⟨none, 0, by rw [h0], ?_, fun a h => by cases h⟩
    obtain rfl : zs = [] := List.eq_nil_of_length_eq_zero h0
    exact Sl.nil w
  · refine ⟨_, _, rfl, ⟨⟨rfl, by omega, hby, fun hp => ⟨g, 0, rfl, fun i hi => ?_⟩⟩, hnc, hcm, (fun h => by cases h), (fun a ha => by injection ha with ha; subst ha; rfl)⟩, (fun a ha => by injection ha with ha; subst ha; exact hg)⟩
    rw [Nat.zero_add, cell_of_row w g i cur _ (0, 0) hh, ← by8_at zs i hi, ← hcu]
    rw [List.getElem?_take, if_pos (by omega), Array.getElem?_toList]
theorem Own.form {w0 w : World} {v : Value} {zs : List Int} (h : Own w0 w v zs) (n : Nat) (hn : zs.length = n) : ∃ A cap, v = .slice A n cap ∧ Rd w A n zs ∧ (A = none → cap = 0) := by
  obtain ⟨A, cap, e, hs, _⟩ := h.sl n hn
  exact ⟨A, cap, e, hs.1, hs.2.2.2.1⟩

set_option maxRecDepth 100000 in
theorem wpList_append_rd {w : World} {ops : Array Oper} {rest : List Oper} {o : Oper} {a : Act} {Q : Exit → Act → World → Prop} (hgd : o.guard = none) (s x : Operand)
    (ho : o.op = .call { callee := .builtin .append, args := #[s, x], argTypes := #[45, 45] })
    (w0 : World) (v : Value) (zs : List Int) (hs : a.eval s = v) (hown : Own w0 w v zs)
    (A : Option Addr) (n c : Nat) (ys : List Int) (hx : a.eval x = .slice A n c) (hA : A = none → c = 0) (hr : Rd w A n ys) (hb : zs.length + n ≤ 140737488355328)
    (h : ∀ v' w', Own w0 w' v' (zs ++ ys) → w.grownBy w' v.ownBlock → (v'.ownBlock = v.ownBlock ∨ v'.ownBlock = some w.heap.size) → wpList Tryz.prog ops Q rest (a.put o.dst v') w') : wpList Tryz.prog ops Q (o :: rest) a w := by
  obtain ⟨i, hi, hz, hsz, hby⟩ := byte_info
  obtain ⟨hb1, hby1, hrow⟩ := hown
  obtain ⟨hl, hm, hby2, hc⟩ := hr
  have hcat := bytes_append hby1 hby2
  rcases A with _ | ad
  · have hn : n = 0 := by
      rcases Nat.eq_zero_or_pos n with h0 | h0
      · exact h0
      · obtain ⟨b, off, he, _⟩ := hc h0; cases he
    subst hn
    obtain rfl : ys = [] := List.eq_nil_of_length_eq_zero hl
    obtain rfl := hA rfl
    refine wpList_append_own_none hgd s x _ ho w0.heap.size 5 i 1 Tryz.underlying45 hi v _ _ hs hrow hx ?_
    exact h v w (by rw [List.append_nil]; exact ⟨hb1, hby1, hrow⟩) ⟨rfl, rfl, rfl, Nat.le_refl _, fun _ _ _ => rfl⟩ (.inl rfl)
  · refine wpList_append_own_at w hgd s x _ ho w0.heap.size 5 i _ 1 1 Tryz.underlying45 hi hz hsz hby rfl (by omega) v _ _ hs hrow ad n c (by8 ys) hx (by rw [by8_length]; omega) ?_ (by8_one ys) (by unfold maxLen; omega) (by omega) hb1.size ?_
    · intro j u hu
      have hj : j < ys.length := by
        rcases Nat.lt_or_ge j ys.length with hj | hj
        · exact hj
        · rw [List.getElem?_eq_none (by rw [by8_length]; exact hj)] at hu; cases hu
      rw [by8_at ys j hj] at hu
      obtain ⟨b, off, he, hcell⟩ := hc (by omega)
      obtain rfl := Option.some.inj he
      have := hcell j (by omega)
      rw [← hu, ← this]
      congr 1
      unfold Addr.add
      split <;> simp_all
    · intro v' w' hrow' hg _ hat
      refine h v' w' ⟨hb1.grown hg hb1.size ?_, hcat, ?_⟩ hg hat
      · intro k hk
        rcases hrow.2 with ⟨rfl, _⟩ | ⟨g, cap, cur, rfl, hg, _⟩
        · simp [Value.ownBlock] at hk
        · simp [Value.ownBlock] at hk; omega
      · rw [List.length_append, hl, by8_append]; exact hrow'

theorem Own.nil (w0 w : World) (hb : Below w0.heap.size w0 w) : Own w0 w (.slice none 0 0) [] := ⟨hb, fun c hc => by simp at hc, rfl, .inl ⟨rfl, rfl⟩⟩
def noneBlk : Obj := .cells #[] 5
theorem Own.made (w0 w : World) (hb : Below w0.heap.size w0 w) : Own w0 (w.alloc noneBlk) (.slice (some ⟨w.heap.size, 0, none⟩) 0 0) [] :=
  ⟨hb.alloc hb.size _, fun c hc => by simp at hc, rfl, .inr ⟨w.heap.size, 0, #[], rfl, hb.size, heap_alloc_new w _, Nat.le_refl _, by unfold maxLen; omega, rfl, rfl⟩⟩
theorem Own.one (w0 w : World) (hb : Below w0.heap.size w0 w) (c : Int) (h0 : 0 ≤ c) (h1 : c ≤ 255) : Own w0 (w.alloc (.cells #[.int .u8 c] 5)) (.slice (some ⟨w.heap.size, 0, none⟩) 1 1) [c] :=
  ⟨hb.alloc hb.size _, bytes_cons h0 h1 bytes_nil, rfl, .inr ⟨w.heap.size, 1, #[.int .u8 c], rfl, hb.size, heap_alloc_new w _, Nat.le_refl _, by unfold maxLen; omega, rfl, rfl⟩⟩
theorem Own.zeros (w : World) (N : Nat) (hN : N ≤ 100000) : Own w (w.alloc (.cells (madeCells #[.int .u8 0] N) 5)) (.slice (some ⟨w.heap.size, 0, none⟩) N N) (List.replicate N 0) := by
  refine ⟨(Below.refl _ _).alloc (Nat.le_refl _) _, bytes_zeros N, by rw [by8_length]; simp, .inr ⟨w.heap.size, N, _, by rw [List.length_replicate], Nat.le_refl _, heap_alloc_new w _, by simp, by unfold maxLen; omega, by rw [size_madeCells]; simp, ?_⟩⟩
  apply List.ext_getElem?
  intro i
  by_cases hi : i < N
  · simp [by8, madeCells, hi, Nat.mod_one]
  · simp [by8, madeCells, hi]
theorem Own.alloc {w0 w : World} {v : Value} {zs : List Int} (h : Own w0 w v zs) (o : Obj) : Own w0 (w.alloc o) v zs := by
  obtain ⟨hb, hby, hlen, h⟩ := h
  refine ⟨hb.alloc hb.size _, hby, hlen, ?_⟩
  rcases h with h | ⟨g, cap, cur, rfl, hg, hh, h4, h5, h6, h7⟩
  · exact .inl h
  · have lt : g < w.heap.size := by
      rcases Nat.lt_or_ge g w.heap.size with h | h
      · exact h
      · rw [Array.getElem?_eq_none h] at hh; cases hh
    exact .inr ⟨g, cap, cur, rfl, hg, (_root_.Go.heap_alloc_old _ _ lt).trans hh, h4, h5, h6, h7⟩
theorem Own.below {w0 w w' : World} {v : Value} {zs : List Int} (h : Own w0 w v zs) (hb2 : Below w.heap.size w w') : Own w0 w' v zs := by
  obtain ⟨hb, hby, hlen, h⟩ := h
  refine ⟨hb.trans (hb2.mono hb.size), hby, hlen, ?_⟩
  rcases h with h | ⟨g, cap, cur, rfl, hg, hh, h4, h5, h6, h7⟩
  · exact .inl h
  · have lt : g < w.heap.size := by
      rcases Nat.lt_or_ge g w.heap.size with h | h
      · exact h
      · rw [Array.getElem?_eq_none h] at hh; cases hh
    exact .inr ⟨g, cap, cur, rfl, hg, (hb2.block g lt).trans hh, h4, h5, h6, h7⟩
theorem Rd.grown {w w' : World} {A : Option Addr} {n : Nat} {zs : List Int} {row : Option Nat} (h : Rd w A n zs) (hg : w.grownBy w' row) (hr : ∀ a, A = some a → row ≠ some a.block) : Rd w' A n zs := by
  obtain ⟨h1, h2, h3, h4⟩ := h
  refine ⟨h1, h2, h3, fun hn => ?_⟩
  obtain ⟨b, off, rfl, hc⟩ := h4 hn
  refine ⟨b, off, rfl, fun i hi => ?_⟩
  exact (World.cell?_of_block (w := w) (hg.block b (lt_of_cell (hc i hi)) (fun e => hr _ rfl e.symm))).trans (hc i hi)
theorem Rd.two (w : World) (a b : Int) (ha : 0 ≤ a ∧ a ≤ 255) (hb : 0 ≤ b ∧ b ≤ 255) : Rd (w.alloc (.cells #[.int .u8 a, .int .u8 b] 5)) (some ⟨w.heap.size, 0, none⟩) 2 [a, b] := by
  refine ⟨rfl, by unfold maxLen; omega, bytes_cons ha.1 ha.2 (bytes_cons hb.1 hb.2 bytes_nil), fun _ => ⟨_, _, rfl, fun i hi => ?_⟩⟩
  rw [World.cell?_alloc_mark, Nat.zero_add]
  rcases (show i = 0 ∨ i = 1 from by omega) with rfl | rfl <;> rfl
theorem Own.drew {w0 w : World} {v : Value} {zs : List Int} (h : Own w0 w v zs) : Own w0 w.drew v zs := ⟨h.1.drew, h.2.1, h.2.2⟩
/-- made by a call that began later -/
theorem Own.since {w0 w1 w : World} {v : Value} {zs : List Int} (h : Own w1 w v zs) (hb : Below w0.heap.size w0 w1) : Own w0 w v zs := by
  obtain ⟨hb1, hby, hlen, h⟩ := h
  refine ⟨hb.trans (hb1.mono hb.size), hby, hlen, ?_⟩
  rcases h with h | ⟨g, cap, cur, e, hg, r⟩
  · exact .inl h
  · exact .inr ⟨g, cap, cur, e, by have := hb.size; omega, r⟩
/-- a store into a slice of the call's own -/
theorem Own.store {w0 w : World} {g n cap : Nat} {zs : List Int} (h : Own w0 w (.slice (some ⟨g, 0, none⟩) n cap) zs) (i : Nat) (c : Int) (h0 : 0 ≤ c) (h1 : c ≤ 255) :
    Own w0 (w.setCell ⟨g, i, none⟩ (.int .u8 c)) (.slice (some ⟨g, 0, none⟩) n cap) (zs.set i c) := by
  obtain ⟨hb, hby, hlen, h⟩ := h
  rcases h with ⟨h, _⟩ | ⟨g', cap', cur, he, hg, hh, h4, h5, h6, h7⟩
  · cases h
  · injection he with e1 e2 e3
    injection e1 with e1
    injection e1 with e1
    subst e1 e2 e3
    refine ⟨hb.setCell (p := ⟨g, i, none⟩) hg _, ?_, by rw [by8_length]; simp, .inr ⟨g, cap, _, by rw [List.length_set], hg, heap_setCell_same w g i cur _ _ hh, by simpa using h4, h5, by simpa using h6, ?_⟩⟩
    · intro x hx
      rcases List.mem_or_eq_of_mem_set hx with hx | rfl
      · exact hby x hx
      · exact ⟨h0, h1⟩
    · rw [Array.toList_setIfInBounds, List.length_set, List.take_set, h7]
      simp [by8, List.map_set]
theorem Own.addr {w0 w : World} {v : Value} {zs : List Int} (h : Own w0 w v zs) (n : Nat) (hn : zs.length = n) (hp : 0 < n) : ∃ g cap, v = .slice (some ⟨g, 0, none⟩) n cap ∧ w0.heap.size ≤ g := by
  subst hn
  rcases h.2.2.2 with ⟨_, h⟩ | ⟨g, cap, _, rfl, hg, _⟩
  · omega
  · exact ⟨g, cap, rfl, hg⟩
theorem Own.cell {w0 w : World} {g n cap : Nat} {zs : List Int} (h : Own w0 w (.slice (some ⟨g, 0, none⟩) n cap) zs) (i : Nat) (hi : i < n) :
    w.cell? ⟨g, i, none⟩ = some (.int .u8 (zs.getD i 0)) ∧ w.frozen? ⟨g, i, none⟩ = false ∧ zs.length = n := by
  obtain ⟨hb, hby, hlen, h⟩ := h
  rcases h with ⟨h, _⟩ | ⟨g', cap', cur, he, hg, hh, h4, h5, h6, h7⟩
  · cases h
  · injection he with e1 e2 e3
    injection e1 with e1
    injection e1 with e1
    subst e1 e2 e3
    refine ⟨?_, frozen_of_row w g i cur _ hh, rfl⟩
    rw [cell_of_row w g i cur _ (0, 0) hh, ← by8_at zs i hi, ← h7, List.getElem?_take, if_pos (by omega), Array.getElem?_toList]

theorem u64_of_wf {n : Int} (h : (Lit.int .u64 n).wf = true) : 0 ≤ n ∧ n ≤ 18446744073709551615 := by
  simp [Lit.wf, IntKind.min, IntKind.max, IntKind.bits, IntKind.signed] at h
  omega
theorem i64_of_wf {n : Int} (h : (Lit.int .i64 n).wf = true) : -9223372036854775808 ≤ n ∧ n ≤ 9223372036854775807 := by
  simp [Lit.wf, IntKind.min, IntKind.max, IntKind.bits, IntKind.signed] at h
  omega

/-! ### the string of bytes -/
def str (zs : List Int) : ByteArray := zs.foldl (fun r n => r.push (UInt8.ofNat n.toNat)) ByteArray.empty
theorem foldl_push (zs : List Int) : ∀ s : ByteArray, (zs.foldl (fun r n => r.push (UInt8.ofNat n.toNat)) s).data.toList = s.data.toList ++ zs.map (fun n => UInt8.ofNat n.toNat) := by
  induction zs with
  | nil => intro s; simp
  | cons c r ih => intro s; simp only [List.foldl_cons]; rw [ih]; simp
theorem str_data (zs : List Int) : (str zs).data.toList = zs.map (fun n => UInt8.ofNat n.toNat) := by
  rw [str, foldl_push]; rfl
theorem byte_inj {a b : Int} (ha : 0 ≤ a ∧ a ≤ 255) (hb : 0 ≤ b ∧ b ≤ 255) (h : UInt8.ofNat a.toNat = UInt8.ofNat b.toNat) : a = b := by
  have h1 := congrArg UInt8.toNat h
  simp at h1
  omega
theorem map_inj : ∀ {xs ys : List Int}, Bytes xs → Bytes ys → xs.map (fun n => UInt8.ofNat n.toNat) = ys.map (fun n => UInt8.ofNat n.toNat) → xs = ys
  | [], [], _, _, _ => rfl
  | [], _ :: _, _, _, h => by simp at h
  | _ :: _, [], _, _, h => by simp at h
  | a :: r, b :: s, hx, hy, h => by
    simp only [List.map_cons, List.cons.injEq] at h
    rw [byte_inj (hx a (by simp)) (hy b (by simp)) h.1, map_inj (fun c hc => hx c (by simp [hc])) (fun c hc => hy c (by simp [hc])) h.2]
theorem str_inj {xs ys : List Int} (hx : Bytes xs) (hy : Bytes ys) (h : str xs = str ys) : xs = ys := by
  apply map_inj hx hy
  rw [← str_data, ← str_data, h]
theorem str_list (zs : List Int) : (str zs).toList = zs.map (fun n => UInt8.ofNat n.toNat) := by rw [ByteArray.toList_eq, str_data]
theorem str_eq {xs ys : List Int} (hx : Bytes xs) (hy : Bytes ys) : ((str xs).toList == (str ys).toList) = decide (xs = ys) := by
  rw [Bool.eq_iff_iff, str_list, str_list]
  simp only [beq_iff_eq, decide_eq_true_eq]
  exact ⟨map_inj hx hy, fun h => by rw [h]⟩
theorem less_map : ∀ (xs ys : List Int), Bytes xs → Bytes ys → Op.bytesLess (xs.map (fun n => UInt8.ofNat n.toNat)) (ys.map (fun n => UInt8.ofNat n.toNat)) = lex xs ys
  | [], [], _, _ => rfl
  | _ :: _, [], _, _ => rfl
  | [], _ :: _, _, _ => rfl
  | a :: r, b :: s, hx, hy => by
    have ih := less_map r s (fun c hc => hx c (by simp [hc])) (fun c hc => hy c (by simp [hc]))
    have ha := hx a (by simp)
    have hb := hy b (by simp)
    rw [List.map_cons, List.map_cons, Op.bytesLess, ih, lex]
    have e1 : decide (UInt8.ofNat a.toNat < UInt8.ofNat b.toNat) = decide (a < b) := by
      rw [decide_eq_decide, UInt8.lt_iff_toNat_lt]
      simp
      omega
    have e2 : (UInt8.ofNat a.toNat == UInt8.ofNat b.toNat) = decide (a = b) := by
      rw [Bool.eq_iff_iff]
      simp only [beq_iff_eq, decide_eq_true_eq]
      exact ⟨byte_inj ha hb, fun h => by rw [h]⟩
    rw [e1, e2]
theorem str_less {xs ys : List Int} (hx : Bytes xs) (hy : Bytes ys) : Op.bytesLess (str xs).toList (str ys).toList = lex xs ys := by rw [str_list, str_list, less_map xs ys hx hy]
theorem Rd.drewN {w : World} {A : Option Addr} {n : Nat} {zs : List Int} (h : Rd w A n zs) (k : Nat) : Rd (w.drewN k) A n zs := h.of_same fun a c _ => by simp
theorem str_same (xs : List Int) : ((str xs).toList == (str xs).toList) = true := by simp

theorem conv_str {w : World} {A : Option Addr} {n : Nat} {zs : List Int} (h : Rd w A n zs) (cap : Nat) : (convert 45 9 (.slice A n cap)).run Tryz.prog w = .ok (.string (str zs)) w := by
  rw [run_convert_bytes_string w _ _ 5 A n cap Tryz.underlying45 Tryz.underlying5 Tryz.underlying9]
  obtain ⟨hl, hm, hby, hc⟩ := h
  cases A with
  | none =>
    have hn : n = 0 := by
      rcases Nat.eq_zero_or_pos n with h0 | h0
      · exact h0
      · obtain ⟨b, off, he, _⟩ := hc h0; cases he
    subst hn
    obtain rfl : zs = [] := List.eq_nil_of_length_eq_zero hl
    simp [Conv.bytesToString, str, Sem.run_pure]
  | some a =>
    refine run_bytesToString w a n cap zs ?_
    have h1 := run_loadCells_list (P := Tryz.prog) (w := w) a (by8 zs) ?_
    · rw [by8_length, hl] at h1
      exact h1
    · intro j v hv
      have hj : j < zs.length := by
        rcases Nat.lt_or_ge j zs.length with hj | hj
        · exact hj
        · rw [List.getElem?_eq_none (by rw [by8_length]; exact hj)] at hv; cases hv
      rw [by8_at zs j hj] at hv
      obtain ⟨b, off, he, hcell⟩ := hc (by omega)
      obtain rfl := Option.some.inj he
      have := hcell j (by omega)
      rw [← hv, ← this]
      congr 1
      unfold Addr.add
      split <;> simp_all
end Go.Proofs.YtgmpdifggaggdaaGreatDoor.Fld

namespace Go.Proofs.YtgmpdifggaggdaaGreatDoor.Dk
open Go.RowKit Go.Proofs.YtgmpdifggaggdaaGreatDoor.Fld

/-- of the blocks that were there, those on the list alone may have changed -/
structure Fr (S : List Nat) (w w' : World) : Prop where
  os : w'.os = w.os
  tape : w'.tape = w.tape
  output : w'.output = w.output
  size : w.heap.size ≤ w'.heap.size
  block : ∀ k, k < w.heap.size → k ∉ S → w'.heap[k]? = w.heap[k]?
theorem Fr.refl (S : List Nat) (w : World) : Fr S w w := ⟨rfl, rfl, rfl, Nat.le_refl _, fun _ _ _ => rfl⟩
theorem Fr.trans {S S' : List Nat} {a b c : World} (h : Fr S a b) (k : Fr S' b c) (hs : ∀ i ∈ S', i ∈ S ∨ a.heap.size ≤ i) : Fr S a c :=
  ⟨k.os.trans h.os, k.tape.trans h.tape, k.output.trans h.output, Nat.le_trans h.size k.size, fun i hi hg => (k.block i (Nat.lt_of_lt_of_le hi h.size) (fun hm => by rcases hs i hm with h | h; exact hg h; omega)).trans (h.block i hi hg)⟩
theorem Fr.same {S : List Nat} {a b c : World} (h : Fr S a b) (k : Fr S b c) : Fr S a c := h.trans k fun _ hi => .inl hi
theorem Fr.mono {S S' : List Nat} {a b : World} (h : Fr S a b) (hs : ∀ i ∈ S, i ∈ S') : Fr S' a b := ⟨h.os, h.tape, h.output, h.size, fun k hk hn => h.block k hk (fun hm => hn (hs k hm))⟩
theorem Fr.alloc {S : List Nat} {a w : World} (h : Fr S a w) (o : Obj) : Fr S a (w.alloc o) :=
  h.same ⟨rfl, rfl, rfl, by simp, fun k hk _ => Below.heap_alloc _ _ _ hk⟩
theorem Fr.setCell {S : List Nat} {a w : World} (h : Fr S a w) (p : Addr) (hp : p.block ∈ S ∨ a.heap.size ≤ p.block) (u : Value) : Fr S a (w.setCell p u) := by
  refine ⟨h.os, h.tape, h.output, by simpa [World.setCell] using h.size, fun k hk hg => ?_⟩
  rw [Below.heap_setCell _ _ _ _ (by rintro rfl; rcases hp with hp | hp; exact hg hp; omega)]
  exact h.block k hk hg
theorem Fr.below {S : List Nat} {w w' : World} (h : Below w.heap.size w w') : Fr S w w' := ⟨h.os, h.tape, h.output, h.size, fun k hk _ => h.block k hk⟩
theorem Fr.to_below {S : List Nat} {w0 w w' : World} (h : Below w0.heap.size w0 w) (hc : Fr S w w') (hg : ∀ i ∈ S, w0.heap.size ≤ i) : Below w0.heap.size w0 w' :=
  h.trans ⟨hc.os, hc.tape, hc.output, hc.size, fun k hk => hc.block k (by have := h.size; omega) (fun hm => by have := hg k hm; omega)⟩
theorem Fr.drew {S : List Nat} {a w : World} (h : Fr S a w) : Fr S a w.drew := ⟨h.os, h.tape, h.output, h.size, h.block⟩
theorem Fr.grown {S : List Nat} {a w w' : World} {row : Option Nat} (h : Fr S a w) (hg : w.grownBy w' row) (hr : ∀ i, row = some i → i ∈ S ∨ a.heap.size ≤ i) : Fr S a w' :=
  ⟨hg.os.trans h.os, hg.tape.trans h.tape, hg.output.trans h.output, Nat.le_trans h.size hg.size, fun k hk hn => (hg.block k (Nat.lt_of_lt_of_le hk h.size) (by rintro rfl; rcases hr k rfl with h | h; exact hn h; omega)).trans (h.block k hk hn)⟩
theorem Fr.turned {S : List Nat} {a w w' : World} {b : Nat} (h : Fr S a w) (hg : w.mapTurned w' b) (hr : b ∈ S ∨ a.heap.size ≤ b) : Fr S a w' := h.grown hg.grown (fun i hi => by cases hi; exact hr)

/-- block g holds a disk's fields -/
def Dsk (w : World) (g : Nat) (room : Int) (b : Nat) (size : Int) (off fs : Bool) (fl : Int) (ag : Bool) (al : Int) : Prop :=
  w.heap[g]? = some (.cells #[.int .i64 room, .map (some b), .int .i64 size, .bool off, .bool fs, .int .i64 fl, .bool ag, .int .i64 al] 54 (0, 0))
def goodRoom (room : Int) : Bool := decide (1 ≤ room) && decide (room ≤ 16777216)

set_option maxHeartbeats 800000 in
theorem new_ok (room : Int) (w : World) (h1 : 1 ≤ room) (h2 : room ≤ 16777216) : Calls Tryz.prog 6 #[.int .i64 room] w fun e w' =>
    ∃ b g, e = .returned (.tuple #[.pointer (some ⟨g, 0, none⟩), .int .i64 0]) ∧ w.heap.size ≤ b ∧ w.heap.size ≤ g ∧ b ≠ g ∧ w'.heap[b]? = some (.map #[] 0) ∧ Dsk w' g room b 0 false false 0 false 0 ∧ Below w.heap.size w w' := by
  have hmm := @run_makeMap Tryz.prog
  have d1 : decide (room < 1) = false := by simp; omega
  have d2 : decide (16777216 < room) = false := by simp; omega
  go_enter Tryz.func6, Tryz.ntmps6
  go_wp2
  go_ret2
  exact ⟨w.heap.size, w.heap.size + 1, rfl, Nat.le_refl _, by omega, by omega, (Below.heap_alloc _ _ _ (by simp)).trans (heap_alloc_new w _), by have := heap_alloc_new (w.alloc (.map #[] 0)) (.cells #[.int .i64 room, .map (some w.heap.size), .int .i64 0, .bool false, .bool false, .int .i64 0, .bool false, .int .i64 0] 54); simpa [Dsk] using this, ((Below.refl _ w).alloc (Nat.le_refl _) _).alloc (by simp) _⟩
theorem new_bad (room : Int) (w : World) (h : room < 1 ∨ 16777216 < room) : Calls Tryz.prog 6 #[.int .i64 room] w fun e w' =>
    e = .returned (.tuple #[.pointer none, .int .i64 1]) ∧ w = w' := by
  rcases Int.lt_or_le room 1 with h1 | h1
  · have d1 : decide (room < 1) = true := by simp; omega
    go_enter Tryz.func6, Tryz.ntmps6
    go_wp2
    go_ret2
    exact ⟨rfl, rfl⟩
  · have d1 : decide (room < 1) = false := by simp; omega
    have d2 : decide (16777216 < room) = true := by simp; omega
    go_enter Tryz.func6, Tryz.ntmps6
    go_wp2
    go_ret2
    exact ⟨rfl, rfl⟩
end Go.Proofs.YtgmpdifggaggdaaGreatDoor.Dk

namespace Go.Proofs.YtgmpdifggaggdaaGreatDoor.Wl
open Go.RowKit Go.Proofs.YtgmpdifggaggdaaGreatDoor.Fld

/-- a function value: which one, what it is bound to, what it has captured -/
structure Fv where
  k : Nat
  bound : Array Value
  caps : Array Value
def Fv.val (f : Fv) : Value := .func (.func f.k) f.bound f.caps
def Fv.args (f : Fv) : Array Value := f.bound ++ f.caps
def Fv.In (f : Fv) : Prop := ∀ (a : Array Value) (w : World), (callFunc f.k a).run Tryz.prog w = .ok (.enter f.k a) w
/-- a slice of steps -/
def RdF (w : World) (A : Option Addr) (n : Nat) (fs : List Fv) : Prop := fs.length = n ∧ n ≤ maxLen ∧ (0 < n → ∃ b off, A = some ⟨b, off, none⟩ ∧ ∀ i f, fs[i]? = some f → w.cell? ⟨b, off + i, none⟩ = some f.val)
set_option maxRecDepth 100000 in
set_option maxHeartbeats 3200000 in
theorem run_any (A : Option Addr) (n cap : Nat) (fs : List Fv) (w : World) (hl : fs.length = n) (hm : n ≤ maxLen) (P : Nat → World → Prop) (Q : Int → World → Prop) (h0 : P 0 w)
    (hr : ∀ i w1, P i w1 → RdF w1 A n fs) (hin : ∀ f ∈ fs, f.In)
    (hs : ∀ i f w1, fs[i]? = some f → P i w1 → Calls Tryz.prog f.k f.args w1 fun e w2 => ∃ r, e = .returned (.int .i64 r) ∧ (r = 0 → P (i + 1) w2) ∧ (r ≠ 0 → Q r w2)) :
    Calls Tryz.prog 15 #[.slice A n cap] w fun e w' => ∃ r, e = .returned (.int .i64 r) ∧ (r = 0 → P n w') ∧ (r ≠ 0 → Q r w') := by
  have H0 := Lib.hid h0
  have HR := Lib.hid hr
  have HI := Lib.hid hin
  have HS := Lib.hid hs
  have HL := Lib.hid hl
  unfold maxLen at hm
  clear h0 hr hin hs hl
  go_enter Tryz.func15, Tryz.ntmps15
  go_wp2
  go_loopw [8] (fun i wr => ∃ k : Nat, k ≤ n ∧ i = .int .i64 k ∧ P k wr) (fun i _ => n - (intOf i).toNat)
  case atStart => exact ⟨0, Nat.zero_le _, rfl, H0.out⟩
  case round =>
    obtain ⟨k, hk, rfl, hP⟩ := hrel
    have HP := Lib.hid hP
    clear hP
    by_cases hlt : k < n
    · obtain ⟨f, hf⟩ : ∃ f, fs[k]? = some f := ⟨_, List.getElem?_eq_getElem (by rw [HL.out]; exact hlt)⟩
      obtain ⟨_, _, hc0⟩ := HR.out k wr HP.out
      obtain ⟨b, off, rfl, hc1⟩ := hc0 (by omega)
      have hc := hc1 k f hf
      clear hc1 hc0
      have HC1 := Lib.hid (HS.out k f wr hf HP.out)
      have hen := HI.out f (List.mem_of_getElem? hf)
      unfold Fv.val at hc
      unfold Fv.In at hen
      unfold Fv.args at HC1
      go_wp2_with fail
      refine HC1.out.mono ?_
      rintro e w2 ⟨r, rfl, hz, hq⟩
      by_cases h : r = 0
      · have HZ := Lib.hid (hz h)
        clear hz hq
        subst h
        go_wp2
        go_roundw
        case rel => exact ⟨k + 1, by omega, by go_num, HZ.out⟩
        case measure => simp [intOf]; omega
      · have HQ := Lib.hid hq
        clear hz hq
        have j1 : decide (r = 0) = false := decide_eq_false h
        go_wp2
        go_ret
        exact ⟨r, rfl, fun h' => absurd h' h, HQ.out⟩
    · obtain rfl : k = n := by omega
      go_wp2
      go_ret
      exact ⟨0, rfl, fun _ => HP.out, fun h => absurd rfl h⟩
end Go.Proofs.YtgmpdifggaggdaaGreatDoor.Wl
