/-
  Several texts in one: Bytes in memory: slices that can be read (Rd, Sl), bytes that a call has made itself (Own), what append, make, a store and the conversion to a string do to them. Conditions: as each theorem states. Layer 9, the mathematics: groups, how many voters stand in a list, most of them, the middle, a number put in a rising list. No condition.
-/
import Derived.Test.YtjadfpcipicckaaGreatChecked
import Derived.Test.YtjadfpcipicckaaGreatJFieldMath
import Derived.WalkKit
import Derived.WalkLawsBesides
import Derived.LoopTactic
import Derived.Outline
import Derived.IntWalk
import Derived.Lib.Hide
import Derived.Below
import Derived.Maps.AppendAt
import Derived.Laws.AppendOwnNone
import Derived.Laws.MakeOwn
import Derived.Deep.OwnRows
import Derived.Laws.BytesString
namespace Go.Proofs.YtjadfpcipicckaaGreat.Fld
open Go.RowKit

/-- a slice that holds the bytes zs -/
def Rd (w : World) (A : Option Addr) (n : Nat) (zs : List Int) : Prop :=
  zs.length = n ∧ n ≤ maxLen ∧ Bytes zs ∧ (0 < n → ∃ b off, A = some ⟨b, off, none⟩ ∧ ∀ i, i < n → w.cell? ⟨b, off + i, none⟩ = some (.int .u8 (zs.getD i 0)))
/-- the same, with its capacity and address -/
def Sl (w : World) (A : Option Addr) (n cap : Nat) (zs : List Int) : Prop := Rd w A n zs ∧ n ≤ cap ∧ cap ≤ maxLen ∧ (A = none → cap = 0) ∧ (∀ a, A = some a → a.spot = none)

theorem lt_of_cell {w : World} {a : Addr} {v : Value} (h : w.cell? a = some v) : a.block < w.heap.size := by
  rcases Nat.lt_or_ge a.block w.heap.size with h' | h'
  · exact h'
  · simp [World.cell?, Array.getElem?_eq_none h'] at h
theorem Rd.nil (w : World) : Rd w none 0 [] := ⟨rfl, by unfold maxLen; omega, fun c hc => by simp at hc, fun h => by omega⟩
theorem Rd.zero (w : World) (A : Option Addr) : Rd w A 0 [] := ⟨rfl, by unfold maxLen; omega, fun c hc => by simp at hc, fun h => by omega⟩
theorem Rd.of_same {w w' : World} {A : Option Addr} {n : Nat} {zs : List Int} (h : Rd w A n zs) (hs : ∀ (a : Addr) (c : Int), w.cell? a = some (.int .u8 c) → w'.cell? a = w.cell? a) : Rd w' A n zs := by
  obtain ⟨h1, h2, h3, h4⟩ := h
  refine ⟨h1, h2, h3, fun hn => ?_⟩
  obtain ⟨b, off, rfl, hc⟩ := h4 hn
  exact ⟨b, off, rfl, fun i hi => (hs _ _ (hc i hi)).trans (hc i hi)⟩
theorem Rd.below {w w' : World} {A : Option Addr} {n : Nat} {zs : List Int} (h : Rd w A n zs) (hb : Below w.heap.size w w') : Rd w' A n zs :=
  h.of_same fun _ _ hc => hb.cell (lt_of_cell hc)
theorem Sl.nil (w : World) : Sl w none 0 0 [] := ⟨Rd.nil w, by omega, by unfold maxLen; omega, fun _ => rfl, fun a h => by cases h⟩
theorem Sl.below {w w' : World} {A : Option Addr} {n cap : Nat} {zs : List Int} (h : Sl w A n cap zs) (hb : Below w.heap.size w w') : Sl w' A n cap zs := ⟨h.1.below hb, h.2⟩
theorem Rd.of_cells {w : World} {x : Addr} {len cap : Nat} {zs : List Int} (hl : len ≤ cap) (hm : cap ≤ maxLen) (hz : zs.length = cap)
    (hcell : ∀ i, i < zs.length → w.cell? (x.add i) = some (.int .u8 (zs.getD i 0))) (hwz : ∀ n ∈ zs, (Lit.int .u8 n).wf = true) : Rd w (some x) len (zs.take len) := by
  refine ⟨by rw [List.length_take]; omega, by omega, fun c hc => ?_, fun hn => ?_⟩
  · have := hwz c (List.mem_of_mem_take hc)
    simp [Lit.wf, IntKind.min, IntKind.max, IntKind.bits, IntKind.signed] at this
    omega
  · obtain ⟨b, off, spot⟩ := x
    have h0 := hcell 0 (by omega)
    have hspot : spot = none := by simpa [Addr.add] using World.cell?_spot h0
    subst hspot
    refine ⟨b, off, rfl, fun i hi => ?_⟩
    have := hcell i (by omega)
    rw [List.getD_eq_getElem?_getD, List.getElem?_take, if_pos hi, ← List.getD_eq_getElem?_getD, ← this]
    congr 1
    unfold Addr.add
    split <;> simp_all
theorem Rd.cut {w : World} {A : Option Addr} {n : Nat} {xs : List Int} (h : Rd w A n xs) (N : Nat) (hN : N ≤ n) : Rd w A N (xs.take N) := by
  obtain ⟨h1, h2, h3, h4⟩ := h
  refine ⟨by rw [List.length_take]; omega, by omega, bytes_take h3 N, fun hn => ?_⟩
  obtain ⟨b, off, rfl, hc⟩ := h4 (by omega)
  refine ⟨b, off, rfl, fun i hi => ?_⟩
  rw [hc i (by omega), List.getD_eq_getElem?_getD, List.getD_eq_getElem?_getD, List.getElem?_take, if_pos hi]
/-- where s[k:] begins -/
def past (a : Addr) (cap k : Nat) : Addr := if cap = k then a else ⟨a.block, a.off + k, none⟩
theorem Sl.tail {w : World} {b off n cap : Nat} {xs : List Int} (h : Sl w (some ⟨b, off, none⟩) n cap xs) (k : Nat) (hk : k ≤ n) : Sl w (some (past ⟨b, off, none⟩ cap k)) (n - k) (cap - k) (xs.drop k) := by
  obtain ⟨⟨h1, h2, h3, h4⟩, h5, h6, h7, h8⟩ := h
  refine ⟨⟨by rw [List.length_drop]; omega, by omega, bytes_drop h3 k, fun hn => ?_⟩, by omega, by omega, (fun h => by cases h), fun a ha => ?_⟩
  · obtain ⟨b', off', he, hcell⟩ := h4 (by omega)
    injection he with he
    injection he with e1 e2
    subst e1 e2
    refine ⟨b, off + k, by unfold past; rw [if_neg (by omega)], fun i hi => ?_⟩
    rw [Nat.add_assoc, hcell (k + i) (by omega)]
    rw [List.getD_eq_getElem?_getD, List.getD_eq_getElem?_getD, List.getElem?_drop]
  · injection ha with ha
    subst ha
    unfold past
    split <;> rfl
theorem past_form (b off cap k : Nat) : ∃ off', past ⟨b, off, none⟩ cap k = ⟨b, off', none⟩ := by
  unfold past
  split
  · exact ⟨_, rfl⟩
  · exact ⟨_, rfl⟩
theorem Rd.addr {w : World} {A : Option Addr} {n : Nat} {zs : List Int} (h : Rd w A n zs) (i : Nat) (hi : i < n) : ∃ b off, A = some ⟨b, off, none⟩ ∧ w.cell? ⟨b, off + i, none⟩ = some (.int .u8 (zs.getD i 0)) := by
  obtain ⟨b, off, e, hc⟩ := h.2.2.2 (by omega)
  exact ⟨b, off, e, hc i hi⟩
theorem getD_byte {xs : List Int} (h : Bytes xs) (i : Nat) (hi : i < xs.length) : 0 ≤ xs.getD i 0 ∧ xs.getD i 0 ≤ 255 := by
  have : xs.getD i 0 ∈ xs := by rw [List.getD_eq_getElem?_getD, List.getElem?_eq_getElem hi]; simp
  exact h _ this

/-! ### bytes of the call's own -/
def by8 (zs : List Int) : List Value := zs.map (fun c => .int .u8 c)
theorem by8_length (zs : List Int) : (by8 zs).length = zs.length := by simp [by8]
theorem by8_append (xs ys : List Int) : by8 (xs ++ ys) = by8 xs ++ by8 ys := by simp [by8]
theorem by8_at (zs : List Int) (i : Nat) (h : i < zs.length) : (by8 zs)[i]? = some (.int .u8 (zs.getD i 0)) := by simp [by8, h]
theorem by8_one (zs : List Int) : ∀ u ∈ by8 zs, u.oneCell' = true := by
  intro u hu
  simp only [by8, List.mem_map] at hu
  obtain ⟨c, _, rfl⟩ := hu
  rfl
theorem byte_info : ∃ i, Tryz.prog.info? 5 = some i ∧ i.zero = some (.int .u8 0) ∧ i.size = 1 ∧ i.bytes = 1 := by
  have h : (Tryz.prog.info? 5).map (fun i => (i.zero, i.size, i.bytes)) = some (some (.int .u8 0), 1, 1) := by kernel_rfl
  cases hq : Tryz.prog.info? 5 with
  | none => simp [hq] at h
  | some i => simp [hq] at h; exact ⟨i, rfl, h⟩

/-- v is a slice of bytes zs, in memory that was made behind w0; what was there at w0 is as it was -/
def Own (w0 w : World) (v : Value) (zs : List Int) : Prop := Below w0.heap.size w0 w ∧ Bytes zs ∧ w.ownsRow w0.heap.size 5 1 v zs.length (by8 zs)

theorem Own.sl {w0 w : World} {v : Value} {zs : List Int} (h : Own w0 w v zs) (n : Nat) (hn : zs.length = n) : ∃ A cap, v = .slice A n cap ∧ Sl w A n cap zs ∧ ∀ a, A = some a → w0.heap.size ≤ a.block := by
  subst hn
  obtain ⟨hb, hby, hlen, h⟩ := h
  rcases h with ⟨rfl, h0⟩ | ⟨g, cap, cur, rfl, hg, hh, hnc, hcm, hcs, hcu⟩
  · refine ⟨none, 0, by rw [h0], ?_, fun a h => by cases h⟩
    obtain rfl : zs = [] := List.eq_nil_of_length_eq_zero h0
    exact Sl.nil w
  · refine ⟨_, _, rfl, ⟨⟨rfl, by omega, hby, fun hp => ⟨g, 0, rfl, fun i hi => ?_⟩⟩, hnc, hcm, (fun h => by cases h), (fun a ha => by injection ha with ha; subst ha; rfl)⟩, (fun a ha => by injection ha with ha; subst ha; exact hg)⟩
    rw [Nat.zero_add, cell_of_row w g i cur _ (0, 0) hh, ← by8_at zs i hi, ← hcu]
    rw [List.getElem?_take, if_pos (by omega), Array.getElem?_toList]
theorem Own.form {w0 w : World} {v : Value} {zs : List Int} (h : Own w0 w v zs) (n : Nat) (hn : zs.length = n) : ∃ A cap, v = .slice A n cap ∧ Rd w A n zs ∧ (A = none → cap = 0) := by
  obtain ⟨A, cap, e, hs, _⟩ := h.sl n hn
  exact ⟨A, cap, e, hs.1, hs.2.2.2.1⟩

set_option maxRecDepth 100000 in
theorem wpList_append_rd {w : World} {ops : Array Oper} {rest : List Oper} {o : Oper} {a : Act} {Q : Exit → Act → World → Prop} (hgd : o.guard = none) (s x : Operand)
    (ho : o.op = .call { callee := .builtin .append, args := #[s, x], argTypes := #[27, 27] })
    (w0 : World) (v : Value) (zs : List Int) (hs : a.eval s = v) (hown : Own w0 w v zs)
    (A : Option Addr) (n c : Nat) (ys : List Int) (hx : a.eval x = .slice A n c) (hA : A = none → c = 0) (hr : Rd w A n ys) (hb : zs.length + n ≤ 140737488355328)
    (h : ∀ v' w', Own w0 w' v' (zs ++ ys) → w.grownBy w' v.ownBlock → (v'.ownBlock = v.ownBlock ∨ v'.ownBlock = some w.heap.size) → wpList Tryz.prog ops Q rest (a.put o.dst v') w') : wpList Tryz.prog ops Q (o :: rest) a w := by
  obtain ⟨i, hi, hz, hsz, hby⟩ := byte_info
  obtain ⟨hb1, hby1, hrow⟩ := hown
  obtain ⟨hl, hm, hby2, hc⟩ := hr
  have hcat := bytes_append hby1 hby2
  rcases A with _ | ad
  · have hn : n = 0 := by
      rcases Nat.eq_zero_or_pos n with h0 | h0
      · exact h0
      · obtain ⟨b, off, he, _⟩ := hc h0; cases he
    subst hn
    obtain rfl : ys = [] := List.eq_nil_of_length_eq_zero hl
    obtain rfl := hA rfl
    refine wpList_append_own_none hgd s x _ ho w0.heap.size 5 i 1 Tryz.underlying27 hi v _ _ hs hrow hx ?_
    exact h v w (by rw [List.append_nil]; exact ⟨hb1, hby1, hrow⟩) ⟨rfl, rfl, rfl, Nat.le_refl _, fun _ _ _ => rfl⟩ (.inl rfl)
  · refine wpList_append_own_at w hgd s x _ ho w0.heap.size 5 i _ 1 1 Tryz.underlying27 hi hz hsz hby rfl (by omega) v _ _ hs hrow ad n c (by8 ys) hx (by rw [by8_length]; omega) ?_ (by8_one ys) (by unfold maxLen; omega) (by omega) hb1.size ?_
    · intro j u hu
      have hj : j < ys.length := by
        rcases Nat.lt_or_ge j ys.length with hj | hj
        · exact hj
        · rw [List.getElem?_eq_none (by rw [by8_length]; exact hj)] at hu; cases hu
      rw [by8_at ys j hj] at hu
      obtain ⟨b, off, he, hcell⟩ := hc (by omega)
      obtain rfl := Option.some.inj he
      have := hcell j (by omega)
      rw [← hu, ← this]
      congr 1
      unfold Addr.add
      split <;> simp_all
    · intro v' w' hrow' hg _ hat
      refine h v' w' ⟨hb1.grown hg hb1.size ?_, hcat, ?_⟩ hg hat
      · intro k hk
        rcases hrow.2 with ⟨rfl, _⟩ | ⟨g, cap, cur, rfl, hg, _⟩
        · simp [Value.ownBlock] at hk
        · simp [Value.ownBlock] at hk; omega
      · rw [List.length_append, hl, by8_append]; exact hrow'

theorem Own.nil (w0 w : World) (hb : Below w0.heap.size w0 w) : Own w0 w (.slice none 0 0) [] := ⟨hb, fun c hc => by simp at hc, rfl, .inl ⟨rfl, rfl⟩⟩
def noneBlk : Obj := .cells #[] 5
theorem Own.made (w0 w : World) (hb : Below w0.heap.size w0 w) : Own w0 (w.alloc noneBlk) (.slice (some ⟨w.heap.size, 0, none⟩) 0 0) [] :=
  ⟨hb.alloc hb.size _, fun c hc => by simp at hc, rfl, .inr ⟨w.heap.size, 0, #[], rfl, hb.size, heap_alloc_new w _, Nat.le_refl _, by unfold maxLen; omega, rfl, rfl⟩⟩
theorem Own.one (w0 w : World) (hb : Below w0.heap.size w0 w) (c : Int) (h0 : 0 ≤ c) (h1 : c ≤ 255) : Own w0 (w.alloc (.cells #[.int .u8 c] 5)) (.slice (some ⟨w.heap.size, 0, none⟩) 1 1) [c] :=
  ⟨hb.alloc hb.size _, bytes_cons h0 h1 bytes_nil, rfl, .inr ⟨w.heap.size, 1, #[.int .u8 c], rfl, hb.size, heap_alloc_new w _, Nat.le_refl _, by unfold maxLen; omega, rfl, rfl⟩⟩
theorem Own.zeros (w : World) (N : Nat) (hN : N ≤ 100000) : Own w (w.alloc (.cells (madeCells #[.int .u8 0] N) 5)) (.slice (some ⟨w.heap.size, 0, none⟩) N N) (List.replicate N 0) := by
  refine ⟨(Below.refl _ _).alloc (Nat.le_refl _) _, bytes_zeros N, by rw [by8_length]; simp, .inr ⟨w.heap.size, N, _, by rw [List.length_replicate], Nat.le_refl _, heap_alloc_new w _, by simp, by unfold maxLen; omega, by rw [size_madeCells]; simp, ?_⟩⟩
  apply List.ext_getElem?
  intro i
  by_cases hi : i < N
  · simp [by8, madeCells, hi, Nat.mod_one]
  · simp [by8, madeCells, hi]
theorem Own.alloc {w0 w : World} {v : Value} {zs : List Int} (h : Own w0 w v zs) (o : Obj) : Own w0 (w.alloc o) v zs := by
  obtain ⟨hb, hby, hlen, h⟩ := h
  refine ⟨hb.alloc hb.size _, hby, hlen, ?_⟩
  rcases h with h | ⟨g, cap, cur, rfl, hg, hh, h4, h5, h6, h7⟩
  · exact .inl h
  · have lt : g < w.heap.size := by
      rcases Nat.lt_or_ge g w.heap.size with h | h
      · exact h
      · rw [Array.getElem?_eq_none h] at hh; cases hh
    exact .inr ⟨g, cap, cur, rfl, hg, (_root_.Go.heap_alloc_old _ _ lt).trans hh, h4, h5, h6, h7⟩
theorem Own.below {w0 w w' : World} {v : Value} {zs : List Int} (h : Own w0 w v zs) (hb2 : Below w.heap.size w w') : Own w0 w' v zs := by
  obtain ⟨hb, hby, hlen, h⟩ := h
  refine ⟨hb.trans (hb2.mono hb.size), hby, hlen, ?_⟩
  rcases h with h | ⟨g, cap, cur, rfl, hg, hh, h4, h5, h6, h7⟩
  · exact .inl h
  · have lt : g < w.heap.size := by
      rcases Nat.lt_or_ge g w.heap.size with h | h
      · exact h
      · rw [Array.getElem?_eq_none h] at hh; cases hh
    exact .inr ⟨g, cap, cur, rfl, hg, (hb2.block g lt).trans hh, h4, h5, h6, h7⟩
theorem Rd.grown {w w' : World} {A : Option Addr} {n : Nat} {zs : List Int} {row : Option Nat} (h : Rd w A n zs) (hg : w.grownBy w' row) (hr : ∀ a, A = some a → row ≠ some a.block) : Rd w' A n zs := by
  obtain ⟨h1, h2, h3, h4⟩ := h
  refine ⟨h1, h2, h3, fun hn => ?_⟩
  obtain ⟨b, off, rfl, hc⟩ := h4 hn
  refine ⟨b, off, rfl, fun i hi => ?_⟩
  exact (World.cell?_of_block (w := w) (hg.block b (lt_of_cell (hc i hi)) (fun e => hr _ rfl e.symm))).trans (hc i hi)
theorem Rd.two (w : World) (a b : Int) (ha : 0 ≤ a ∧ a ≤ 255) (hb : 0 ≤ b ∧ b ≤ 255) : Rd (w.alloc (.cells #[.int .u8 a, .int .u8 b] 5)) (some ⟨w.heap.size, 0, none⟩) 2 [a, b] := by
  refine ⟨rfl, by unfold maxLen; omega, bytes_cons ha.1 ha.2 (bytes_cons hb.1 hb.2 bytes_nil), fun _ => ⟨_, _, rfl, fun i hi => ?_⟩⟩
  rw [World.cell?_alloc_mark, Nat.zero_add]
  rcases (show i = 0 ∨ i = 1 from by omega) with rfl | rfl <;> rfl
theorem Own.drew {w0 w : World} {v : Value} {zs : List Int} (h : Own w0 w v zs) : Own w0 w.drew v zs := ⟨h.1.drew, h.2.1, h.2.2⟩
/-- made by a call that began later -/
theorem Own.since {w0 w1 w : World} {v : Value} {zs : List Int} (h : Own w1 w v zs) (hb : Below w0.heap.size w0 w1) : Own w0 w v zs := by
  obtain ⟨hb1, hby, hlen, h⟩ := h
  refine ⟨hb.trans (hb1.mono hb.size), hby, hlen, ?_⟩
  rcases h with h | ⟨g, cap, cur, e, hg, r⟩
  · exact .inl h
  · exact .inr ⟨g, cap, cur, e, by have := hb.size; omega, r⟩
/-- a store into a slice of the call's own -/
theorem Own.store {w0 w : World} {g n cap : Nat} {zs : List Int} (h : Own w0 w (.slice (some ⟨g, 0, none⟩) n cap) zs) (i : Nat) (c : Int) (h0 : 0 ≤ c) (h1 : c ≤ 255) :
    Own w0 (w.setCell ⟨g, i, none⟩ (.int .u8 c)) (.slice (some ⟨g, 0, none⟩) n cap) (zs.set i c) := by
  obtain ⟨hb, hby, hlen, h⟩ := h
  rcases h with ⟨h, _⟩ | ⟨g', cap', cur, he, hg, hh, h4, h5, h6, h7⟩
  · cases h
  · injection he with e1 e2 e3
    injection e1 with e1
    injection e1 with e1
    subst e1 e2 e3
    refine ⟨hb.setCell (p := ⟨g, i, none⟩) hg _, ?_, by rw [by8_length]; simp, .inr ⟨g, cap, _, by rw [List.length_set], hg, heap_setCell_same w g i cur _ _ hh, by simpa using h4, h5, by simpa using h6, ?_⟩⟩
    · intro x hx
      rcases List.mem_or_eq_of_mem_set hx with hx | rfl
      · exact hby x hx
      · exact ⟨h0, h1⟩
    · rw [Array.toList_setIfInBounds, List.length_set, List.take_set, h7]
      simp [by8, List.map_set]
theorem Own.addr {w0 w : World} {v : Value} {zs : List Int} (h : Own w0 w v zs) (n : Nat) (hn : zs.length = n) (hp : 0 < n) : ∃ g cap, v = .slice (some ⟨g, 0, none⟩) n cap ∧ w0.heap.size ≤ g := by
  subst hn
  rcases h.2.2.2 with ⟨_, h⟩ | ⟨g, cap, _, rfl, hg, _⟩
  · omega
  · exact ⟨g, cap, rfl, hg⟩
theorem Own.cell {w0 w : World} {g n cap : Nat} {zs : List Int} (h : Own w0 w (.slice (some ⟨g, 0, none⟩) n cap) zs) (i : Nat) (hi : i < n) :
    w.cell? ⟨g, i, none⟩ = some (.int .u8 (zs.getD i 0)) ∧ w.frozen? ⟨g, i, none⟩ = false ∧ zs.length = n := by
  obtain ⟨hb, hby, hlen, h⟩ := h
  rcases h with ⟨h, _⟩ | ⟨g', cap', cur, he, hg, hh, h4, h5, h6, h7⟩
  · cases h
  · injection he with e1 e2 e3
    injection e1 with e1
    injection e1 with e1
    subst e1 e2 e3
    refine ⟨?_, frozen_of_row w g i cur _ hh, rfl⟩
    rw [cell_of_row w g i cur _ (0, 0) hh, ← by8_at zs i hi, ← h7, List.getElem?_take, if_pos (by omega), Array.getElem?_toList]

theorem u64_of_wf {n : Int} (h : (Lit.int .u64 n).wf = true) : 0 ≤ n ∧ n ≤ 18446744073709551615 := by
  simp [Lit.wf, IntKind.min, IntKind.max, IntKind.bits, IntKind.signed] at h
  omega
theorem i64_of_wf {n : Int} (h : (Lit.int .i64 n).wf = true) : -9223372036854775808 ≤ n ∧ n ≤ 9223372036854775807 := by
  simp [Lit.wf, IntKind.min, IntKind.max, IntKind.bits, IntKind.signed] at h
  omega

/-! ### the string of bytes -/
def str (zs : List Int) : ByteArray := zs.foldl (fun r n => r.push (UInt8.ofNat n.toNat)) ByteArray.empty
theorem foldl_push (zs : List Int) : ∀ s : ByteArray, (zs.foldl (fun r n => r.push (UInt8.ofNat n.toNat)) s).data.toList = s.data.toList ++ zs.map (fun n => UInt8.ofNat n.toNat) := by
  induction zs with
  | nil => intro s; simp
  | cons c r ih => intro s; simp only [List.foldl_cons]; rw [ih]; simp
theorem str_data (zs : List Int) : (str zs).data.toList = zs.map (fun n => UInt8.ofNat n.toNat) := by
  rw [str, foldl_push]; rfl
theorem byte_inj {a b : Int} (ha : 0 ≤ a ∧ a ≤ 255) (hb : 0 ≤ b ∧ b ≤ 255) (h : UInt8.ofNat a.toNat = UInt8.ofNat b.toNat) : a = b := by
  have h1 := congrArg UInt8.toNat h
  simp at h1
  omega
theorem map_inj : ∀ {xs ys : List Int}, Bytes xs → Bytes ys → xs.map (fun n => UInt8.ofNat n.toNat) = ys.map (fun n => UInt8.ofNat n.toNat) → xs = ys
  | [], [], _, _, _ => rfl
  | [], _ :: _, _, _, h => by simp at h
  | _ :: _, [], _, _, h => by simp at h
  | a :: r, b :: s, hx, hy, h => by
    simp only [List.map_cons, List.cons.injEq] at h
    rw [byte_inj (hx a (by simp)) (hy b (by simp)) h.1, map_inj (fun c hc => hx c (by simp [hc])) (fun c hc => hy c (by simp [hc])) h.2]
theorem str_inj {xs ys : List Int} (hx : Bytes xs) (hy : Bytes ys) (h : str xs = str ys) : xs = ys := by
  apply map_inj hx hy
  rw [← str_data, ← str_data, h]
theorem str_list (zs : List Int) : (str zs).toList = zs.map (fun n => UInt8.ofNat n.toNat) := by rw [ByteArray.toList_eq, str_data]
theorem str_eq {xs ys : List Int} (hx : Bytes xs) (hy : Bytes ys) : ((str xs).toList == (str ys).toList) = decide (xs = ys) := by
  rw [Bool.eq_iff_iff, str_list, str_list]
  simp only [beq_iff_eq, decide_eq_true_eq]
  exact ⟨map_inj hx hy, fun h => by rw [h]⟩
theorem less_map : ∀ (xs ys : List Int), Bytes xs → Bytes ys → Op.bytesLess (xs.map (fun n => UInt8.ofNat n.toNat)) (ys.map (fun n => UInt8.ofNat n.toNat)) = lex xs ys
  | [], [], _, _ => rfl
  | _ :: _, [], _, _ => rfl
  | [], _ :: _, _, _ => rfl
  | a :: r, b :: s, hx, hy => by
    have ih := less_map r s (fun c hc => hx c (by simp [hc])) (fun c hc => hy c (by simp [hc]))
    have ha := hx a (by simp)
    have hb := hy b (by simp)
    rw [List.map_cons, List.map_cons, Op.bytesLess, ih, lex]
    have e1 : decide (UInt8.ofNat a.toNat < UInt8.ofNat b.toNat) = decide (a < b) := by
      rw [decide_eq_decide, UInt8.lt_iff_toNat_lt]
      simp
      omega
    have e2 : (UInt8.ofNat a.toNat == UInt8.ofNat b.toNat) = decide (a = b) := by
      rw [Bool.eq_iff_iff]
      simp only [beq_iff_eq, decide_eq_true_eq]
      exact ⟨byte_inj ha hb, fun h => by rw [h]⟩
    rw [e1, e2]
theorem str_less {xs ys : List Int} (hx : Bytes xs) (hy : Bytes ys) : Op.bytesLess (str xs).toList (str ys).toList = lex xs ys := by rw [str_list, str_list, less_map xs ys hx hy]
theorem Rd.drewN {w : World} {A : Option Addr} {n : Nat} {zs : List Int} (h : Rd w A n zs) (k : Nat) : Rd (w.drewN k) A n zs := h.of_same fun a c _ => by simp
theorem str_same (xs : List Int) : ((str xs).toList == (str xs).toList) = true := by simp

theorem conv_str {w : World} {A : Option Addr} {n : Nat} {zs : List Int} (h : Rd w A n zs) (cap : Nat) : (convert 27 9 (.slice A n cap)).run Tryz.prog w = .ok (.string (str zs)) w := by
  rw [run_convert_bytes_string w _ _ 5 A n cap Tryz.underlying27 Tryz.underlying5 Tryz.underlying9]
  obtain ⟨hl, hm, hby, hc⟩ := h
  cases A with
  | none =>
    have hn : n = 0 := by
      rcases Nat.eq_zero_or_pos n with h0 | h0
      · exact h0
      · obtain ⟨b, off, he, _⟩ := hc h0; cases he
    subst hn
    obtain rfl : zs = [] := List.eq_nil_of_length_eq_zero hl
    simp [Conv.bytesToString, str, Sem.run_pure]
  | some a =>
    refine run_bytesToString w a n cap zs ?_
    have h1 := run_loadCells_list (P := Tryz.prog) (w := w) a (by8 zs) ?_
    · rw [by8_length, hl] at h1
      exact h1
    · intro j v hv
      have hj : j < zs.length := by
        rcases Nat.lt_or_ge j zs.length with hj | hj
        · exact hj
        · rw [List.getElem?_eq_none (by rw [by8_length]; exact hj)] at hv; cases hv
      rw [by8_at zs j hj] at hv
      obtain ⟨b, off, he, hcell⟩ := hc (by omega)
      obtain rfl := Option.some.inj he
      have := hcell j (by omega)
      rw [← hv, ← this]
      congr 1
      unfold Addr.add
      split <;> simp_all
end Go.Proofs.YtjadfpcipicckaaGreat.Fld

namespace Go.Proofs.YtjadfpcipicckaaGreat.Qu
set_option linter.unusedVariables false

/-- numbers of nodes that rise, above b -/
def upN : Int → List Int → Bool
  | _, [] => true
  | b, n :: r => decide (b < n) && decide (n ≤ 15) && upN n r
theorem upN_snoc : ∀ (xs : List Int) (b c : Int), upN b (xs ++ [c]) = (upN b xs && (decide (xs.getLastD b < c) && decide (c ≤ 15)))
  | [], b, c => by simp [upN]
  | n :: r, b, c => by
    rw [List.cons_append, upN, upN, upN_snoc r n c]
    have : (n :: r).getLastD b = r.getLastD n := by cases r <;> simp [List.getLastD]
    rw [this]
    simp [Bool.and_assoc]
theorem take_succ (l : List Int) (k : Nat) (h : k < l.length) : l.take (k + 1) = l.take k ++ [l.getD k 0] := by
  rw [List.take_add_one, List.getElem?_eq_getElem h, List.getD_eq_getElem?_getD, List.getElem?_eq_getElem h]
  rfl
theorem last_snoc (xs : List Int) (b c : Int) : (xs ++ [c]).getLastD b = c := by simp [List.getLastD_eq_getLast?]
theorem upN_false : ∀ (xs ys : List Int) (b : Int), upN b xs = false → upN b (xs ++ ys) = false
  | [], _, _, h => by simp [upN] at h
  | n :: r, ys, b, h => by
    rw [upN] at h
    rw [List.cons_append, upN]
    cases h1 : (decide (b < n) && decide (n ≤ 15)) with
    | false => rfl
    | true =>
      rw [h1] at h
      rw [upN_false r ys n (by simpa using h)]
      rfl
theorem upN_cut (l : List Int) (b : Int) (k : Nat) (h : upN b (l.take k) = false) : upN b l = false := by
  have := upN_false _ (l.drop k) b h
  rwa [List.take_append_drop] at this
theorem last_at (l : List Int) (k : Nat) (hk : 0 < k) (hl : k ≤ l.length) : (l.take k).getLastD 0 = l.getD (k - 1) 0 := by
  obtain ⟨j, rfl⟩ : ∃ j, k = j + 1 := ⟨k - 1, by omega⟩
  rw [take_succ l j (by omega), last_snoc]
  rfl
theorem last_pos : ∀ (xs : List Int) (b : Int), 0 ≤ b → upN b xs = true → b ≤ xs.getLastD b ∧ (xs ≠ [] → b < xs.getLastD b)
  | [], b, _, _ => ⟨Int.le_refl _, fun h => absurd rfl h⟩
  | n :: r, b, hb, h => by
    rw [upN] at h
    simp only [Bool.and_eq_true, decide_eq_true_eq] at h
    have ih := last_pos r n (by omega) h.2
    have e : (n :: r).getLastD b = r.getLastD n := by cases r <;> simp [List.getLastD]
    rw [e]
    exact ⟨by omega, fun _ => by omega⟩
theorem upN_all : ∀ (l : List Int) (b : Int), upN b l = true → (∀ x ∈ l, b < x ∧ x ≤ 15) ∧ l.Pairwise (· < ·)
  | [], _, _ => ⟨by simp, List.Pairwise.nil⟩
  | n :: r, b, h => by
    rw [upN] at h
    simp only [Bool.and_eq_true, decide_eq_true_eq] at h
    obtain ⟨h1, h2⟩ := upN_all r n h.2
    refine ⟨fun x hx => ?_, List.pairwise_cons.2 ⟨fun x hx => (h1 x hx).1, h2⟩⟩
    rcases List.mem_cons.1 hx with rfl | hx
    · exact h.1
    · have := h1 x hx
      omega
theorem upN_of : ∀ (l : List Int) (b : Int), (∀ x ∈ l, b < x ∧ x ≤ 15) → l.Pairwise (· < ·) → upN b l = true
  | [], _, _, _ => rfl
  | n :: r, b, h1, h2 => by
    rw [List.pairwise_cons] at h2
    rw [upN]
    simp only [Bool.and_eq_true, decide_eq_true_eq]
    exact ⟨h1 n (by simp), upN_of r n (fun x hx => ⟨h2.1 x hx, (h1 x (by simp [hx])).2⟩) h2.2⟩
theorem upN_iff (l : List Int) (b : Int) : upN b l = true ↔ (∀ x ∈ l, b < x ∧ x ≤ 15) ∧ l.Pairwise (· < ·) := ⟨upN_all l b, fun h => upN_of l b h.1 h.2⟩
theorem upN_len : ∀ (l : List Int) (b : Int), upN b l = true → b ≤ 15 → (l.length : Int) ≤ 15 - b
  | [], b, _, hb => by simpa using hb
  | n :: r, b, h, hb => by
    rw [upN] at h
    simp only [Bool.and_eq_true, decide_eq_true_eq] at h
    have := upN_len r n h.2 h.1.2
    simp only [List.length_cons]
    omega

def hasI (l : List Int) (x : Int) : Bool := l.contains x
theorem has_take (l : List Int) (x : Int) (k : Nat) (h : k < l.length) : hasI (l.take (k + 1)) x = (hasI (l.take k) x || (x == l.getD k 0)) := by
  unfold hasI
  rw [take_succ l k h, Bool.eq_iff_iff]
  simp
theorem has_at (l : List Int) (x : Int) (k : Nat) (h : k < l.length) (hx : (x == l.getD k 0) = true) : hasI l x = true := by
  unfold hasI
  rw [List.contains_iff_mem, show x = l[k] by rw [List.getD_eq_getElem?_getD, List.getElem?_eq_getElem h] at hx; simpa using hx]
  exact List.getElem_mem h
theorem has_iff (l : List Int) (x : Int) : hasI l x = true ↔ x ∈ l := by unfold hasI; exact List.contains_iff_mem
theorem has_not (l : List Int) (x : Int) : hasI l x = false ↔ x ∉ l := by rw [← has_iff]; simp

/-- how many of vs stand in l -/
def cnt (vs l : List Int) : Nat := vs.countP (hasI l)
theorem cnt_take (vs l : List Int) (k : Nat) (h : k < vs.length) : cnt (vs.take (k + 1)) l = cnt (vs.take k) l + (if hasI l (vs.getD k 0) then 1 else 0) := by
  unfold cnt
  rw [take_succ vs k h, List.countP_append, List.countP_singleton]
theorem cnt_le (vs l : List Int) : cnt vs l ≤ vs.length := List.countP_le_length
theorem cntP_take (vs : List Int) (p : Int → Bool) (k : Nat) (h : k < vs.length) : (vs.take (k + 1)).countP p = (vs.take k).countP p + (if p (vs.getD k 0) then 1 else 0) := by
  rw [take_succ vs k h, List.countP_append, List.countP_singleton]
def grpOk (vs ls : List Int) : Bool := !(decide (vs.length = 0)) && upN 0 vs && upN 0 ls && !(vs.any fun x => hasI ls x)
theorem any_cnt (vs ls : List Int) : (vs.any fun x => hasI ls x) = decide (0 < cnt vs ls) := by
  rw [Bool.eq_iff_iff, List.any_eq_true, decide_eq_true_eq]
  unfold cnt
  rw [List.countP_pos_iff]
theorem grpOk_iff (vs ls : List Int) : grpOk vs ls = true ↔ vs ≠ [] ∧ upN 0 vs = true ∧ upN 0 ls = true ∧ ∀ x ∈ vs, x ∉ ls := by
  unfold grpOk
  simp only [Bool.and_eq_true, Bool.not_eq_true', decide_eq_false_iff_not, List.any_eq_false, and_assoc, List.length_eq_zero_iff]
  refine and_congr Iff.rfl (and_congr Iff.rfl (and_congr Iff.rfl ?_))
  constructor
  · intro h x hx hl; exact h x hx ((has_iff _ _).2 hl)
  · intro h x hx hl; exact h x hx ((has_iff _ _).1 hl)
def need (vs : List Int) : Nat := vs.length / 2 + 1
def winsG (vs ls l : List Int) : Bool := grpOk vs ls && decide (need vs ≤ cnt vs l)
def lostG (vs ls l : List Int) : Bool := grpOk vs ls && decide (vs.length - cnt vs l < need vs)

/-- two parts that are together more than all have one in common -/
theorem meet (l : List Int) (p q : Int → Bool) (h : l.length < l.countP p + l.countP q) : ∃ x ∈ l, p x = true ∧ q x = true := by
  induction l with
  | nil => simp at h
  | cons x r ih =>
    rw [List.countP_cons, List.countP_cons, List.length_cons] at h
    by_cases hp : p x = true
    · by_cases hq : q x = true
      · exact ⟨x, by simp, hp, hq⟩
      · obtain ⟨y, hy, h1⟩ := ih (by simp [hp, hq] at h; omega)
        exact ⟨y, by simp [hy], h1⟩
    · obtain ⟨y, hy, h1⟩ := ih (by simp [hp] at h; split at h <;> omega)
      exact ⟨y, by simp [hy], h1⟩

/-- a number put in where it rises -/
def insN (l : List Int) (n : Int) : List Int := l.takeWhile (fun x => decide (x < n)) ++ n :: l.dropWhile (fun x => decide (x < n))
def remN (l : List Int) (n : Int) : List Int := l.filter fun x => decide (x ≠ n)
theorem remN_take (l : List Int) (n : Int) (k : Nat) (h : k < l.length) : remN (l.take (k + 1)) n = remN (l.take k) n ++ (if l.getD k 0 = n then [] else [l.getD k 0]) := by
  unfold remN
  rw [take_succ l k h, List.filter_append]
  congr 1
  generalize l.getD k 0 = y
  by_cases hn : y = n <;> simp [hn]
theorem remN_len (l : List Int) (n : Int) : (remN l n).length ≤ l.length := List.length_filter_le _ _
theorem remN_none (l : List Int) (n : Int) (h : n ∉ l) : remN l n = l := by
  unfold remN
  rw [List.filter_eq_self]
  intro x hx
  simp
  rintro rfl
  exact h hx
theorem mem_remN (l : List Int) (n x : Int) : x ∈ remN l n ↔ x ∈ l ∧ x ≠ n := by simp [remN]
theorem mem_insN (l : List Int) (n x : Int) : x ∈ insN l n ↔ x = n ∨ x ∈ l := by
  unfold insN
  have := List.takeWhile_append_dropWhile (p := fun x => decide (x < n)) (l := l)
  constructor
  · intro h
    rcases List.mem_append.1 h with h | h
    · right; rw [← this]; exact List.mem_append.2 (.inl h)
    · rcases List.mem_cons.1 h with h | h
      · exact .inl h
      · right; rw [← this]; exact List.mem_append.2 (.inr h)
  · rintro (h | h)
    · rw [h]; simp
    · rw [← this] at h
      rcases List.mem_append.1 h with h | h
      · exact List.mem_append.2 (.inl h)
      · exact List.mem_append.2 (.inr (by simp [h]))
theorem insN_len (l : List Int) (n : Int) : (insN l n).length = l.length + 1 := by
  unfold insN
  have := congrArg List.length (List.takeWhile_append_dropWhile (p := fun x => decide (x < n)) (l := l))
  simp only [List.length_append, List.length_cons] at this ⊢
  omega
theorem tw_lt (l : List Int) (n : Int) (x : Int) (h : x ∈ l.takeWhile fun x => decide (x < n)) : x < n := by
  have := List.all_takeWhile (l := l) (p := fun x => decide (x < n))
  rw [List.all_eq_true] at this
  simpa using this x h
theorem dw_ge : ∀ (l : List Int) (n : Int), l.Pairwise (· < ·) → n ∉ l → ∀ x ∈ l.dropWhile (fun x => decide (x < n)), n < x
  | [], n, _, _ => by simp
  | a :: r, n, hp, hn => by
    rw [List.pairwise_cons] at hp
    simp only [List.mem_cons, not_or] at hn
    rw [List.dropWhile_cons]
    by_cases h : a < n
    · simp only [h, decide_true, if_true]
      exact dw_ge r n hp.2 hn.2
    · simp only [h, decide_false]
      intro x hx
      simp only [Bool.false_eq_true, if_false, List.mem_cons] at hx
      rcases hx with rfl | hx
      · omega
      · have := hp.1 x hx
        omega
theorem insN_up (l : List Int) (n : Int) (h : upN 0 l = true) (h1 : 0 < n) (h2 : n ≤ 15) (hn : n ∉ l) : upN 0 (insN l n) = true := by
  obtain ⟨ha, hp⟩ := (upN_iff l 0).1 h
  refine (upN_iff _ 0).2 ⟨fun x hx => ?_, ?_⟩
  · rcases (mem_insN l n x).1 hx with rfl | hx
    · exact ⟨h1, h2⟩
    · exact ha x hx
  · unfold insN
    have hs := hp
    rw [← List.takeWhile_append_dropWhile (p := fun x => decide (x < n)) (l := l), List.pairwise_append] at hs
    rw [List.pairwise_append, List.pairwise_cons]
    refine ⟨hs.1, ⟨fun x hx => dw_ge l n hp hn x hx, hs.2.1⟩, fun a ha b hb => ?_⟩
    rcases List.mem_cons.1 hb with rfl | hb
    · exact tw_lt l _ a ha
    · exact hs.2.2 a ha b hb
theorem remN_up (l : List Int) (n : Int) (h : upN 0 l = true) : upN 0 (remN l n) = true := by
  obtain ⟨ha, hp⟩ := (upN_iff l 0).1 h
  exact (upN_iff _ 0).2 ⟨fun x hx => ha x ((mem_remN l n x).1 hx).1, hp.filter _⟩
theorem remN_insN (l : List Int) (n : Int) (h : n ∉ l) : remN (insN l n) n = l := by
  have hl := List.takeWhile_append_dropWhile (p := fun x => decide (x < n)) (l := l)
  unfold insN remN
  rw [List.filter_append, List.filter_cons]
  simp only [ne_eq, not_true_eq_false, decide_false, Bool.false_eq_true, if_false]
  rw [← List.filter_append, hl]
  exact remN_none l n h
theorem insN_count (l : List Int) (n : Int) (p : Int → Bool) : (insN l n).countP p = l.countP p + (if p n then 1 else 0) := by
  have hl := congrArg (List.countP p) (List.takeWhile_append_dropWhile (p := fun x => decide (x < n)) (l := l))
  rw [List.countP_append] at hl
  unfold insN
  rw [List.countP_append, List.countP_cons]
  omega
theorem remN_count : ∀ (l : List Int) (n : Int) (p : Int → Bool), l.Pairwise (· < ·) → l.countP p ≤ (remN l n).countP p + 1
  | [], _, _, _ => by simp
  | a :: r, n, p, h => by
    rw [List.pairwise_cons] at h
    by_cases ha : a = n
    · subst ha
      have e : remN (a :: r) a = r := by
        unfold remN
        rw [List.filter_cons]
        simp only [ne_eq, not_true_eq_false, decide_false, Bool.false_eq_true, if_false]
        exact remN_none r a (fun hm => by have := h.1 a hm; omega)
      rw [e, List.countP_cons]
      split <;> omega
    · have e : remN (a :: r) n = a :: remN r n := by
        unfold remN
        rw [List.filter_cons]
        simp [ha]
      rw [e, List.countP_cons, List.countP_cons]
      have := remN_count r n p h.2
      omega
theorem remN_length : ∀ (l : List Int) (n : Int), l.Pairwise (· < ·) → n ∈ l → (remN l n).length + 1 = l.length
  | [], _, _, h => by simp at h
  | a :: r, n, hp, hm => by
    rw [List.pairwise_cons] at hp
    by_cases ha : a = n
    · subst ha
      have e : remN (a :: r) a = r := by
        unfold remN
        rw [List.filter_cons]
        simp only [ne_eq, not_true_eq_false, decide_false, Bool.false_eq_true, if_false]
        exact remN_none r a (fun hm => by have := hp.1 a hm; omega)
      rw [e]
      rfl
    · have e : remN (a :: r) n = a :: remN r n := by
        unfold remN
        rw [List.filter_cons]
        simp [ha]
      rw [e, List.length_cons, List.length_cons, remN_length r n hp.2 (by simpa [Ne.symm ha] using hm)]

/-- the middle of some numbers: most have at least that, and no most more -/
def IsMid (N : Nat) (xs : List Int) (m : Int) : Prop := m ∈ xs ∧ N ≤ xs.countP (fun x => decide (m ≤ x)) ∧ xs.countP (fun x => decide (m < x)) < N
theorem IsMid.unique {N : Nat} {xs : List Int} {a b : Int} (ha : IsMid N xs a) (hb : IsMid N xs b) : a = b := by
  have key : ∀ a b : Int, IsMid N xs a → IsMid N xs b → ¬ a < b := by
    intro a b ha hb h
    have h1 := ha.2.2
    have h2 := hb.2.1
    have : xs.countP (fun x => decide (b ≤ x)) ≤ xs.countP (fun x => decide (a < x)) := List.countP_mono_left (fun x _ hx => by simp at hx ⊢; omega)
    omega
  have h1 := key a b ha hb
  have h2 := key b a hb ha
  omega
def srt (xs : List Int) : List Int := xs.mergeSort fun x y => decide (x ≤ y)
theorem srt_pair (xs : List Int) : (srt xs).Pairwise (· ≤ ·) := by
  have := List.pairwise_mergeSort (le := fun x y : Int => decide (x ≤ y)) (fun a b c h1 h2 => by simp at *; omega) (fun a b => by simp; omega) xs
  exact this.imp (fun h => by simpa using h)
theorem srt_perm (xs : List Int) : (srt xs).Perm xs := List.mergeSort_perm _ _
theorem srt_len (xs : List Int) : (srt xs).length = xs.length := (srt_perm xs).length_eq
theorem sorted_le (s : List Int) (h : s.Pairwise (· ≤ ·)) (i j : Nat) (hij : i ≤ j) (hj : j < s.length) : s.getD i 0 ≤ s.getD j 0 := by
  rw [List.getD_eq_getElem?_getD, List.getD_eq_getElem?_getD, List.getElem?_eq_getElem hj, List.getElem?_eq_getElem (by omega : i < s.length)]
  rcases Nat.lt_or_eq_of_le hij with h1 | rfl
  · exact List.pairwise_iff_getElem.1 h i j (by omega) hj h1
  · exact Int.le_refl _
theorem mid_sorted (s : List Int) (h : s.Pairwise (· ≤ ·)) (N : Nat) (h0 : 0 < N) (hN : N ≤ s.length) : IsMid N s (s.getD (s.length - N) 0) := by
  have hlt : s.length - N < s.length := by omega
  refine ⟨?_, ?_, ?_⟩
  · rw [List.getD_eq_getElem?_getD, List.getElem?_eq_getElem hlt]
    exact List.getElem_mem _
  · have e : s.countP (fun x => decide (s.getD (s.length - N) 0 ≤ x)) = (s.take (s.length - N)).countP (fun x => decide (s.getD (s.length - N) 0 ≤ x)) + (s.drop (s.length - N)).countP (fun x => decide (s.getD (s.length - N) 0 ≤ x)) := by
      rw [← List.countP_append, List.take_append_drop]
    have a : (s.drop (s.length - N)).countP (fun x => decide (s.getD (s.length - N) 0 ≤ x)) = (s.drop (s.length - N)).length := by
      rw [List.countP_eq_length]
      intro x hx
      obtain ⟨i, hi, rfl⟩ := List.getElem_of_mem hx
      rw [List.length_drop] at hi
      rw [List.getElem_drop]
      have := sorted_le s h (s.length - N) (s.length - N + i) (by omega) (by omega)
      rw [List.getD_eq_getElem?_getD (i := s.length - N + i), List.getElem?_eq_getElem (by omega : s.length - N + i < s.length)] at this
      simpa using this
    rw [e, a, List.length_drop]
    omega
  · have e : s.countP (fun x => decide (s.getD (s.length - N) 0 < x)) = (s.take (s.length - N + 1)).countP (fun x => decide (s.getD (s.length - N) 0 < x)) + (s.drop (s.length - N + 1)).countP (fun x => decide (s.getD (s.length - N) 0 < x)) := by
      rw [← List.countP_append, List.take_append_drop]
    have a : (s.take (s.length - N + 1)).countP (fun x => decide (s.getD (s.length - N) 0 < x)) = 0 := by
      rw [List.countP_eq_zero]
      intro x hx
      obtain ⟨i, hi, rfl⟩ := List.getElem_of_mem hx
      rw [List.length_take] at hi
      rw [List.getElem_take]
      have := sorted_le s h i (s.length - N) (by omega) (by omega)
      rw [List.getD_eq_getElem?_getD (i := i), List.getElem?_eq_getElem (by omega : i < s.length)] at this
      simp at this ⊢
      omega
    have b : (s.drop (s.length - N + 1)).countP (fun x => decide (s.getD (s.length - N) 0 < x)) ≤ (s.drop (s.length - N + 1)).length := List.countP_le_length
    rw [List.length_drop] at b
    rw [e, a]
    omega
theorem IsMid.perm {N : Nat} {a b : List Int} {m : Int} (h : IsMid N a m) (hp : a.Perm b) : IsMid N b m := ⟨hp.mem_iff.1 h.1, by rw [← hp.countP_eq]; exact h.2.1, by rw [← hp.countP_eq]; exact h.2.2⟩
def midOf (xs : List Int) (N : Nat) : Int := (srt xs).getD (xs.length - N) 0
theorem mid_is (xs : List Int) (N : Nat) (h0 : 0 < N) (hN : N ≤ xs.length) : IsMid N xs (midOf xs N) := by
  have := mid_sorted (srt xs) (srt_pair xs) N h0 (by rw [srt_len]; exact hN)
  rw [srt_len] at this
  exact this.perm (srt_perm xs)
/-- the document's own search: the greatest of those that enough have -/
def bestTo (N : Nat) (xs : List Int) : List Int → Int × Bool
  | [] => (0, false)
  | x :: r =>
    let q := bestTo N xs r
    if N ≤ xs.countP (fun y => decide (x ≤ y)) ∧ (q.2 = false ∨ q.1 < x) then (x, true) else q
/-- one more, behind -/
def bStep (N : Nat) (xs : List Int) (q : Int × Bool) (x : Int) : Int × Bool :=
  if N ≤ xs.countP (fun y => decide (x ≤ y)) ∧ (q.2 = false ∨ q.1 < x) then (x, true) else q
def best (N : Nat) (xs ys : List Int) : Int × Bool := ys.foldl (bStep N xs) (0, false)
theorem best_snoc (N : Nat) (xs ys : List Int) (x : Int) : best N xs (ys ++ [x]) = bStep N xs (best N xs ys) x := by simp [best]
theorem best_take (N : Nat) (xs ys : List Int) (k : Nat) (h : k < ys.length) : best N xs (ys.take (k + 1)) = bStep N xs (best N xs (ys.take k)) (ys.getD k 0) := by
  rw [take_succ ys k h, best_snoc]
theorem best_inv (N : Nat) (xs : List Int) : ∀ (ys : List Int), (∀ y ∈ ys, y ∈ xs) → ∀ q : Int × Bool, (q.2 = true → q.1 ∈ xs ∧ N ≤ xs.countP (fun y => decide (q.1 ≤ y))) →
    ((ys.foldl (bStep N xs) q).2 = true → (ys.foldl (bStep N xs) q).1 ∈ xs ∧ N ≤ xs.countP (fun y => decide ((ys.foldl (bStep N xs) q).1 ≤ y))) ∧
    (∀ y ∈ ys, N ≤ xs.countP (fun z => decide (y ≤ z)) → (ys.foldl (bStep N xs) q).2 = true ∧ y ≤ (ys.foldl (bStep N xs) q).1) ∧
    (q.2 = true → (ys.foldl (bStep N xs) q).2 = true ∧ q.1 ≤ (ys.foldl (bStep N xs) q).1)
  | [], _, q, hq => ⟨hq, by simp, fun h => ⟨h, Int.le_refl _⟩⟩
  | x :: r, hm, q, hq => by
    rw [List.foldl_cons]
    have hq' : (bStep N xs q x).2 = true → (bStep N xs q x).1 ∈ xs ∧ N ≤ xs.countP (fun y => decide ((bStep N xs q x).1 ≤ y)) := by
      unfold bStep
      split
      · rename_i hc; intro _; exact ⟨hm x (by simp), hc.1⟩
      · exact hq
    obtain ⟨a, b, c⟩ := best_inv N xs r (fun y hy => hm y (by simp [hy])) (bStep N xs q x) hq'
    have up : (N ≤ xs.countP (fun z => decide (x ≤ z)) → (bStep N xs q x).2 = true ∧ x ≤ (bStep N xs q x).1) ∧ (q.2 = true → (bStep N xs q x).2 = true ∧ q.1 ≤ (bStep N xs q x).1) := by
      unfold bStep
      split
      · rename_i hc
        refine ⟨fun _ => ⟨rfl, Int.le_refl _⟩, fun h => ⟨rfl, ?_⟩⟩
        rcases hc.2 with h2 | h2
        · rw [h] at h2; cases h2
        · exact Int.le_of_lt h2
      · rename_i hc
        refine ⟨fun hN => ?_, fun h => ⟨h, Int.le_refl _⟩⟩
        have : ¬ (q.2 = false ∨ q.1 < x) := fun h => hc ⟨hN, h⟩
        simp only [not_or, Bool.not_eq_false, Int.not_lt] at this
        exact this
    refine ⟨a, fun y hy hN => ?_, fun h => ?_⟩
    · rcases List.mem_cons.1 hy with rfl | hy
      · obtain ⟨u1, u2⟩ := up.1 hN
        obtain ⟨v1, v2⟩ := c u1
        exact ⟨v1, Int.le_trans u2 v2⟩
      · exact b y hy hN
    · obtain ⟨u1, u2⟩ := up.2 h
      obtain ⟨v1, v2⟩ := c u1
      exact ⟨v1, Int.le_trans u2 v2⟩
theorem best_mid (xs : List Int) (N : Nat) (h0 : 0 < N) (hN : N ≤ xs.length) : (best N xs xs).1 = midOf xs N := by
  have hm := mid_is xs N h0 hN
  obtain ⟨a, b, _⟩ := best_inv N xs xs (fun _ h => h) (0, false) (by simp)
  obtain ⟨u, v⟩ := b _ hm.1 hm.2.1
  obtain ⟨c, d⟩ := a u
  have : ¬ midOf xs N < (xs.foldl (bStep N xs) (0, false)).1 := by
    intro h
    have h1 := hm.2.2
    have : xs.countP (fun y => decide ((xs.foldl (bStep N xs) (0, false)).1 ≤ y)) ≤ xs.countP (fun x => decide (midOf xs N < x)) := List.countP_mono_left (fun x _ hx => by simp at hx ⊢; omega)
    omega
  show (xs.foldl (bStep N xs) (0, false)).1 = _
  omega
theorem mid_rises (f g : Int → Int) (vs : List Int) (N : Nat) (h0 : 0 < N) (hN : N ≤ vs.length) (h : ∀ v ∈ vs, f v ≤ g v) : midOf (vs.map f) N ≤ midOf (vs.map g) N := by
  have hf := mid_is (vs.map f) N h0 (by simpa using hN)
  have hg := mid_is (vs.map g) N h0 (by simpa using hN)
  have a := hf.2.1
  have b := hg.2.2
  rw [List.countP_map] at a b
  refine Int.not_lt.1 fun hlt => ?_
  have : vs.countP ((fun x => decide (midOf (vs.map f) N ≤ x)) ∘ f) ≤ vs.countP ((fun x => decide (midOf (vs.map g) N < x)) ∘ g) := List.countP_mono_left (fun x hx hy => by
    have := h x hx
    simp at hy ⊢
    omega)
  omega
theorem mid_same (c : Int) (xs : List Int) (N : Nat) (h0 : 0 < N) (hN : N ≤ xs.length) (h : ∀ x ∈ xs, x = c) : midOf xs N = c := h _ (mid_is xs N h0 hN).1

/-- what the document's own 'with' makes, one number behind the other -/
def wStep (n : Int) (q : List Int × Bool) (x : Int) : List Int × Bool := if q.2 = false ∧ n < x then (q.1 ++ [n, x], true) else (q.1 ++ [x], q.2)
def wFold (n : Int) (l : List Int) : List Int × Bool := l.foldl (wStep n) ([], false)
def wEnd (n : Int) (q : List Int × Bool) : List Int := if q.2 then q.1 else q.1 ++ [n]
theorem wFold_take (n : Int) (l : List Int) (k : Nat) (h : k < l.length) : wFold n (l.take (k + 1)) = wStep n (wFold n (l.take k)) (l.getD k 0) := by
  rw [take_succ l k h]; simp [wFold]
theorem wFold_more (n : Int) : ∀ (l : List Int) (a : List Int), l.foldl (wStep n) (a, true) = (a ++ l, true)
  | [], a => by simp
  | x :: r, a => by rw [List.foldl_cons]; simp [wStep, wFold_more n r]
theorem wFold_len (n : Int) : ∀ (l : List Int) (q : List Int × Bool), (l.foldl (wStep n) q).1.length ≤ q.1.length + 2 * l.length
  | [], q => by simp
  | x :: r, q => by
    rw [List.foldl_cons]
    have a := wFold_len n r (wStep n q x)
    have b : (wStep n q x).1.length ≤ q.1.length + 2 := by unfold wStep; split <;> simp
    rw [List.length_cons]
    omega
theorem wFold_ins (n : Int) : ∀ (l : List Int) (a : List Int), l.Pairwise (· < ·) → n ∉ l → wEnd n (l.foldl (wStep n) (a, false)) = a ++ insN l n
  | [], a, _, _ => by simp [wEnd, insN]
  | x :: r, a, hp, hn => by
    rw [List.pairwise_cons] at hp
    simp only [List.mem_cons, not_or] at hn
    rw [List.foldl_cons]
    by_cases h : n < x
    · have e : wStep n (a, false) x = (a ++ [n, x], true) := by simp [wStep, h]
      rw [e, wFold_more]
      simp [wEnd, insN, show ¬ x < n by omega]
    · have e : wStep n (a, false) x = (a ++ [x], false) := by simp [wStep, h]
      rw [e, wFold_ins n r (a ++ [x]) hp.2 hn.2]
      simp [insN, show x < n by omega]
theorem with_ins (n : Int) (l : List Int) (hp : l.Pairwise (· < ·)) (hn : n ∉ l) : wEnd n (wFold n l) = insN l n := by
  have := wFold_ins n l [] hp hn
  simpa [wFold] using this
/-- where the search finds the place -/
theorem count_take : ∀ (l : List Int) (n : Int), l.Pairwise (· < ·) → l.take (l.countP fun x => decide (x < n)) = l.takeWhile (fun x => decide (x < n)) ∧ l.drop (l.countP fun x => decide (x < n)) = l.dropWhile (fun x => decide (x < n))
  | [], n, _ => by simp
  | a :: r, n, h => by
    rw [List.pairwise_cons] at h
    obtain ⟨e1, e2⟩ := count_take r n h.2
    rw [List.countP_cons, List.takeWhile_cons, List.dropWhile_cons]
    by_cases ha : a < n
    · simp [ha, e1, e2]
    · have : r.countP (fun x => decide (x < n)) = 0 := by
        rw [List.countP_eq_zero]
        intro x hx
        have := h.1 x hx
        simp
        omega
      simp [ha, this]
end Go.Proofs.YtjadfpcipicckaaGreat.Qu
