/-
  Layer 10, the document's own node in memory: its block, the rows of who said yes and no. Conditions: as each theorem states.
-/
import Derived.Test.YtjajgjpkiofhmaaElE
import Derived.Test.YtjajgjpkiofhmaaQuW3
namespace Go.Proofs.Ytjajgjpkiofhmaa.El
open Go.RowKit Go.Proofs.Ytjajgjpkiofhmaa.Qu Go.Proofs.Ytjajgjpkiofhmaa.Fld
set_option linter.unusedVariables false

structure Ql where
  g : Nat
  VA : Option Addr
  vc : Nat
  LA : Option Addr
  lc : Nat
  yv : Value
  nv : Value
  yl : List Int
  nl : List Int
def rnC (q : Ql) (s : St) : Array Value := #[.int .i64 s.id, .int .i64 s.term, .int .i64 s.vote, .slice q.VA s.vs.length q.vc, .slice q.LA s.ls.length q.lc, .int .i64 s.pat, .int .i64 s.role, .int .i64 s.lead, .int .i64 s.wait, .int .i64 s.lim, q.yv, q.nv]
def Ql.foot (q : Ql) : List Nat := q.g :: (q.yv.ownBlock.toList ++ q.nv.ownBlock.toList)
theorem rdI_fr2 {S : List Nat} {w w' : World} {A : Option Addr} {n : Nat} {l : List Int} (h : RdI w A n l) (hf : Dk.Fr S w w') (ha : ∀ a, A = some a → 0 < n → a.block ∉ S) : RdI w' A n l := by
  obtain ⟨h1, h2, h3⟩ := h
  refine ⟨h1, h2, fun hn => ?_⟩
  obtain ⟨b, off, rfl, hc⟩ := h3 hn
  exact ⟨b, off, rfl, fun i hi => (World.cell?_of_block (w := w) (hf.block b (lt_of_cell (hc i hi)) (ha _ rfl hn))).trans (hc i hi)⟩
structure Rb (lo N : Nat) (w : World) (q : Ql) (s : St) : Prop where
  blk : Blk w q.g (rnC q s) 51
  ry : w.ownsRow lo 3 1 q.yv q.yl.length (vI q.yl)
  rn : w.ownsRow lo 3 1 q.nv q.nl.length (vI q.nl)
  yn : ∀ i, q.yv.ownBlock = some i → q.nv.ownBlock ≠ some i
  vs : RdI w q.VA s.vs.length s.vs
  ls : RdI w q.LA s.ls.length s.ls
  va : ∀ a, q.VA = some a → 0 < s.vs.length → a.block < lo
  la : ∀ a, q.LA = some a → 0 < s.ls.length → a.block < lo
  lg : lo ≤ q.g
  ny : q.yl.length ≤ N
  nn : q.nl.length ≤ N
  ok : s.Ok
structure Rm (lo N : Nat) (w : World) (q : Ql) (s : St) : Prop where
  rb : Rb lo N w q s
  hy : ∀ x, hasI q.yl x = (s.am x == 1)
  hn : ∀ x, hasI q.nl x = (s.am x == 2)
theorem Rb.cells {lo N : Nat} {w : World} {q : Ql} {s : St} (h : Rb lo N w q s) : w.cell? ⟨q.g, 0, none⟩ = some (.int .i64 s.id) ∧ w.cell? ⟨q.g, 1, none⟩ = some (.int .i64 s.term) ∧ w.cell? ⟨q.g, 2, none⟩ = some (.int .i64 s.vote) ∧ w.cell? ⟨q.g, 3, none⟩ = some (.slice q.VA s.vs.length q.vc) ∧ w.cell? ⟨q.g, 4, none⟩ = some (.slice q.LA s.ls.length q.lc) ∧ w.cell? ⟨q.g, 5, none⟩ = some (.int .i64 s.pat) ∧ w.cell? ⟨q.g, 6, none⟩ = some (.int .i64 s.role) ∧ w.cell? ⟨q.g, 7, none⟩ = some (.int .i64 s.lead) ∧ w.cell? ⟨q.g, 8, none⟩ = some (.int .i64 s.wait) ∧ w.cell? ⟨q.g, 9, none⟩ = some (.int .i64 s.lim) ∧ w.cell? ⟨q.g, 10, none⟩ = some q.yv ∧ w.cell? ⟨q.g, 11, none⟩ = some q.nv :=
  ⟨Blk.cell h.blk 0 _ rfl, Blk.cell h.blk 1 _ rfl, Blk.cell h.blk 2 _ rfl, Blk.cell h.blk 3 _ rfl, Blk.cell h.blk 4 _ rfl, Blk.cell h.blk 5 _ rfl, Blk.cell h.blk 6 _ rfl, Blk.cell h.blk 7 _ rfl, Blk.cell h.blk 8 _ rfl, Blk.cell h.blk 9 _ rfl, Blk.cell h.blk 10 _ rfl, Blk.cell h.blk 11 _ rfl⟩
theorem mem_foot {q : Ql} {i : Nat} : i ∈ q.foot ↔ i = q.g ∨ q.yv.ownBlock = some i ∨ q.nv.ownBlock = some i := by
  simp only [Ql.foot, List.mem_cons, List.mem_append, Option.mem_toList]
theorem Rb.flt {lo N : Nat} {w : World} {q : Ql} {s : St} (h : Rb lo N w q s) : ∀ i ∈ q.foot, lo ≤ i ∧ i < w.heap.size := by
  intro i hi
  rcases mem_foot.1 hi with rfl | hi | hi
  · exact ⟨h.lg, Blk.lt h.blk⟩
  · exact row_lo h.ry i hi
  · exact row_lo h.rn i hi
theorem Rb.fr {S : List Nat} {lo N : Nat} {w w' : World} {q : Ql} {s : St} (h : Rb lo N w q s) (hf : Dk.Fr S w w') (hd : ∀ i ∈ q.foot, i ∉ S) (hS : ∀ i ∈ S, lo ≤ i) : Rb lo N w' q s :=
  ⟨(hf.block _ (Blk.lt h.blk) (hd _ (mem_foot.2 (.inl rfl)))).trans h.blk, row_of h.ry fun i hi => hf.block i (row_lo h.ry i hi).2 (hd _ (mem_foot.2 (.inr (.inl hi)))), row_of h.rn fun i hi => hf.block i (row_lo h.rn i hi).2 (hd _ (mem_foot.2 (.inr (.inr hi)))), h.yn, rdI_fr2 h.vs hf (fun a ha hn hm => by have := h.va a ha hn; have := hS _ hm; omega), rdI_fr2 h.ls hf (fun a ha hn hm => by have := h.la a ha hn; have := hS _ hm; omega), h.va, h.la, h.lg, h.ny, h.nn, h.ok⟩
theorem Rb.below {lo N : Nat} {w w' : World} {q : Ql} {s : St} (h : Rb lo N w q s) (hb : Below w.heap.size w w') : Rb lo N w' q s := h.fr (S := []) (Dk.Fr.below hb) (fun i _ hi => by cases hi) (fun i hi => by cases hi)
theorem Rb.mono {lo N N' : Nat} {w : World} {q : Ql} {s : St} (h : Rb lo N w q s) (hn : N ≤ N') : Rb lo N' w q s := ⟨h.blk, h.ry, h.rn, h.yn, h.vs, h.ls, h.va, h.la, h.lg, Nat.le_trans h.ny hn, Nat.le_trans h.nn hn, h.ok⟩
theorem Rm.below {lo N : Nat} {w w' : World} {q : Ql} {s : St} (h : Rm lo N w q s) (hb : Below w.heap.size w w') : Rm lo N w' q s := ⟨h.rb.below hb, h.hy, h.hn⟩
theorem Rm.mono {lo N N' : Nat} {w : World} {q : Ql} {s : St} (h : Rm lo N w q s) (hn : N ≤ N') : Rm lo N' w q s := ⟨h.rb.mono hn, h.hy, h.hn⟩
theorem Rm.fr {S : List Nat} {lo N : Nat} {w w' : World} {q : Ql} {s : St} (h : Rm lo N w q s) (hf : Dk.Fr S w w') (hd : ∀ i ∈ q.foot, i ∉ S) (hS : ∀ i ∈ S, lo ≤ i) : Rm lo N w' q s := ⟨h.rb.fr hf hd hS, h.hy, h.hn⟩
/-- what a call leaves of such a node -/
structure RDb (lo N : Nat) (w w' : World) (q q' : Ql) (s' : St) : Prop where
  rb : Rb lo N w' q' s'
  fr : Dk.Fr q.foot w w'
  ft : ∀ i ∈ q'.foot, i ∈ q.foot ∨ w.heap.size ≤ i
theorem RDb.same {lo N : Nat} {w w' : World} {q : Ql} {s : St} (h : Rb lo N w q s) (hb : Below w.heap.size w w') : RDb lo N w w' q q s := ⟨h.below hb, Dk.Fr.below hb, fun i hi => .inl hi⟩
theorem RDb.then {lo N N' : Nat} {w w1 w' : World} {q q1 q' : Ql} {s1 s' : St} (h : RDb lo N w w1 q q1 s1) (k : RDb lo N' w1 w' q1 q' s') : RDb lo N' w w' q q' s' := by
  have hs := h.fr.size
  refine ⟨k.rb, h.fr.trans k.fr h.ft, fun i hi => ?_⟩
  rcases k.ft i hi with h1 | h1
  · exact h.ft i h1
  · exact .inr (by omega)
theorem RDb.to {lo N : Nat} {w w1 w' : World} {q q1 : Ql} {s1 : St} (h : RDb lo N w w1 q q1 s1) (hb : Below w1.heap.size w1 w') : RDb lo N w w' q q1 s1 := h.then (RDb.same h.rb hb)
theorem RDb.past {lo N : Nat} {w w1 w' : World} {q q' : Ql} {s' : St} (hb : Below w.heap.size w w1) (k : RDb lo N w1 w' q q' s') : RDb lo N w w' q q' s' := by
  have hs := hb.size
  refine ⟨k.rb, (Dk.Fr.below hb).same k.fr, fun i hi => ?_⟩
  rcases k.ft i hi with h1 | h1
  · exact .inl h1
  · exact .inr (by omega)
theorem Rb.gne {lo N : Nat} {w : World} {q : Ql} {s : St} (h : Rb lo N w q s) : q.yv.ownBlock ≠ some q.g ∧ q.nv.ownBlock ≠ some q.g := ⟨row_ne h.ry h.blk (by decide), row_ne h.rn h.blk (by decide)⟩
/-- a cell of the node's block is written, the rows stay -/
theorem Rb.set {lo N : Nat} {w : World} {q : Ql} {s s' : St} (h : Rb lo N w q s) (i : Nat) (v : Value) (hc : (rnC q s).setIfInBounds i v = rnC q s') (hi : i < 12) (hv : s'.vs = s.vs) (hl : s'.ls = s.ls) (ok : s'.Ok) : RDb lo N w (w.setCell ⟨q.g, i, none⟩ v) q q s' := by
  obtain ⟨g1, g2⟩ := h.gne
  have hf : Dk.Fr [q.g] w (w.setCell ⟨q.g, i, none⟩ v) := (Dk.Fr.refl _ _).setCell _ (.inl (by simp)) _
  have hne : ∀ k, k ≠ q.g → (w.setCell ⟨q.g, i, none⟩ v).heap[k]? = w.heap[k]? := fun k hk => Below.heap_setCell _ _ _ _ hk
  have hlo := h.lg
  refine ⟨⟨by rw [← hc]; exact Blk.set h.blk i v (by show i < 12; exact hi), row_of h.ry fun k hk => hne k (fun e => g1 (by rw [hk, e])), row_of h.rn fun k hk => hne k (fun e => g2 (by rw [hk, e])), h.yn, by rw [hv]; exact rdI_fr2 h.vs hf (fun a ha hn hm => by have := h.va a ha hn; simp at hm; omega), by rw [hl]; exact rdI_fr2 h.ls hf (fun a ha hn hm => by have := h.la a ha hn; simp at hm; omega), by rw [hv]; exact h.va, by rw [hl]; exact h.la, h.lg, h.ny, h.nn, ok⟩, hf.mono (fun k hk => by simp at hk; subst hk; exact mem_foot.2 (.inl rfl)), fun k hk => .inl hk⟩
/-- a row is stored: of yes -/
theorem Rb.setY {lo N N' : Nat} {w W : World} {q : Ql} {s : St} (h : Rb lo N w q s) (v : Value) (l : List Int) (hf : Dk.Fr q.yv.ownBlock.toList w W) (hr : W.ownsRow lo 3 1 v l.length (vI l)) (ha : v.ownBlock = q.yv.ownBlock ∨ v.ownBlock = none ∨ ∀ i, v.ownBlock = some i → w.heap.size ≤ i) (hN : N ≤ N') (hl : l.length ≤ N') : RDb lo N' w (W.setCell ⟨q.g, 10, none⟩ v) q { q with yv := v, yl := l } s := by
  obtain ⟨g1, g2⟩ := h.gne
  have hlo := h.lg
  have hgl := Blk.lt h.blk
  have hg : ∀ k, q.yv.ownBlock = some k → k ∈ q.yv.ownBlock.toList := fun k hk => by simp [hk]
  have hB : Blk W q.g (rnC q s) 51 := (hf.block _ hgl (fun hm => g1 (by simpa using hm))).trans h.blk
  have hB2 := Blk.set hB 10 v (by show 10 < 12; omega)
  have vne : v.ownBlock ≠ some q.g := row_ne hr hB (by decide)
  have hf2 : Dk.Fr (q.g :: q.yv.ownBlock.toList) w (W.setCell ⟨q.g, 10, none⟩ v) := (hf.mono (fun i hi => List.mem_cons_of_mem _ hi)).setCell _ (.inl (by simp)) _
  have hS : ∀ i ∈ q.g :: q.yv.ownBlock.toList, lo ≤ i := fun i hi => by
    simp only [List.mem_cons, Option.mem_toList] at hi
    rcases hi with rfl | hi
    · exact hlo
    · exact (row_lo h.ry i hi).1
  refine ⟨⟨hB2, row_of hr fun k hk => Below.heap_setCell _ _ _ _ (fun e => vne (by rw [hk, e])), row_of h.rn fun k hk => hf2.block k (row_lo h.rn k hk).2 (fun hm => ?_), fun i hi hn => ?_, rdI_fr2 h.vs hf2 (fun a ha' hn hm => by have := h.va a ha' hn; have := hS _ hm; omega), rdI_fr2 h.ls hf2 (fun a ha' hn hm => by have := h.la a ha' hn; have := hS _ hm; omega), h.va, h.la, h.lg, hl, Nat.le_trans h.nn hN, h.ok⟩, hf2.mono (fun i hi => ?_), fun i hi => ?_⟩
  · simp only [List.mem_cons, Option.mem_toList] at hm
    rcases hm with rfl | hm
    · exact g2 hk
    · exact h.yn k hm hk
  · have hi' : v.ownBlock = some i := hi
    have hn' : q.nv.ownBlock = some i := hn
    rcases ha with e | e | e
    · exact h.yn i (by rw [← e]; exact hi') hn'
    · rw [e] at hi'; cases hi'
    · have := e i hi'; have := (row_lo h.rn i hn').2; omega
  · simp only [List.mem_cons, Option.mem_toList] at hi
    rcases hi with rfl | hi
    · exact mem_foot.2 (.inl rfl)
    · exact mem_foot.2 (.inr (.inl hi))
  · rcases mem_foot.1 hi with rfl | hi | hi
    · exact .inl (mem_foot.2 (.inl rfl))
    · have hi' : v.ownBlock = some i := hi
      rcases ha with e | e | e
      · exact .inl (mem_foot.2 (.inr (.inl (by rw [← e]; exact hi'))))
      · rw [e] at hi'; cases hi'
      · exact .inr (e i hi')
    · exact .inl (mem_foot.2 (.inr (.inr hi)))
/-- a row is stored: of no -/
theorem Rb.setN {lo N N' : Nat} {w W : World} {q : Ql} {s : St} (h : Rb lo N w q s) (v : Value) (l : List Int) (hf : Dk.Fr q.nv.ownBlock.toList w W) (hr : W.ownsRow lo 3 1 v l.length (vI l)) (ha : v.ownBlock = q.nv.ownBlock ∨ v.ownBlock = none ∨ ∀ i, v.ownBlock = some i → w.heap.size ≤ i) (hN : N ≤ N') (hl : l.length ≤ N') : RDb lo N' w (W.setCell ⟨q.g, 11, none⟩ v) q { q with nv := v, nl := l } s := by
  obtain ⟨g1, g2⟩ := h.gne
  have hlo := h.lg
  have hgl := Blk.lt h.blk
  have hB : Blk W q.g (rnC q s) 51 := (hf.block _ hgl (fun hm => g2 (by simpa using hm))).trans h.blk
  have hB2 := Blk.set hB 11 v (by show 11 < 12; omega)
  have vne : v.ownBlock ≠ some q.g := row_ne hr hB (by decide)
  have hf2 : Dk.Fr (q.g :: q.nv.ownBlock.toList) w (W.setCell ⟨q.g, 11, none⟩ v) := (hf.mono (fun i hi => List.mem_cons_of_mem _ hi)).setCell _ (.inl (by simp)) _
  have hS : ∀ i ∈ q.g :: q.nv.ownBlock.toList, lo ≤ i := fun i hi => by
    simp only [List.mem_cons, Option.mem_toList] at hi
    rcases hi with rfl | hi
    · exact hlo
    · exact (row_lo h.rn i hi).1
  refine ⟨⟨hB2, row_of h.ry fun k hk => hf2.block k (row_lo h.ry k hk).2 (fun hm => ?_), row_of hr fun k hk => Below.heap_setCell _ _ _ _ (fun e => vne (by rw [hk, e])), fun i hi hn => ?_, rdI_fr2 h.vs hf2 (fun a ha' hn hm => by have := h.va a ha' hn; have := hS _ hm; omega), rdI_fr2 h.ls hf2 (fun a ha' hn hm => by have := h.la a ha' hn; have := hS _ hm; omega), h.va, h.la, h.lg, Nat.le_trans h.ny hN, hl, h.ok⟩, hf2.mono (fun i hi => ?_), fun i hi => ?_⟩
  · simp only [List.mem_cons, Option.mem_toList] at hm
    rcases hm with rfl | hm
    · exact g1 hk
    · exact h.yn k hk hm
  · have hi' : q.yv.ownBlock = some i := hi
    have hn' : v.ownBlock = some i := hn
    rcases ha with e | e | e
    · exact h.yn i hi' (by rw [← e]; exact hn')
    · rw [e] at hn'; cases hn'
    · have := e i hn'; have := (row_lo h.ry i hi').2; omega
  · simp only [List.mem_cons, Option.mem_toList] at hi
    rcases hi with rfl | hi
    · exact mem_foot.2 (.inl rfl)
    · exact mem_foot.2 (.inr (.inr hi))
  · rcases mem_foot.1 hi with rfl | hi | hi
    · exact .inl (mem_foot.2 (.inl rfl))
    · exact .inl (mem_foot.2 (.inr (.inl hi)))
    · have hi' : v.ownBlock = some i := hi
      rcases ha with e | e | e
      · exact .inl (mem_foot.2 (.inr (.inr (by rw [← e]; exact hi'))))
      · rw [e] at hi'; cases hi'
      · exact .inr (e i hi')
theorem Rb.noY {lo N : Nat} {w : World} {q : Ql} {s : St} (h : Rb lo N w q s) : RDb lo N w (w.setCell ⟨q.g, 10, none⟩ (.slice none 0 0)) q { q with yv := .slice none 0 0, yl := [] } s := h.setY _ [] (Dk.Fr.refl _ _) (row_nil _ _ _ _) (.inr (.inl rfl)) (Nat.le_refl _) (Nat.zero_le _)
theorem Rb.noN {lo N : Nat} {w : World} {q : Ql} {s : St} (h : Rb lo N w q s) : RDb lo N w (w.setCell ⟨q.g, 11, none⟩ (.slice none 0 0)) q { q with nv := .slice none 0 0, nl := [] } s := h.setN _ [] (Dk.Fr.refl _ _) (row_nil _ _ _ _) (.inr (.inl rfl)) (Nat.le_refl _) (Nat.zero_le _)
theorem one_row (w : World) (lo : Nat) (h : lo ≤ w.heap.size) (x : Int) : (w.alloc (.cells #[.int .i64 x] 3)).ownsRow lo 3 1 (.slice (some ⟨w.heap.size, 0, none⟩) 1 1) 1 (vI [x]) :=
  ⟨by simp [vI], .inr ⟨_, 1, _, rfl, h, heap_alloc_new w _, Nat.le_refl _, by unfold maxLen; omega, rfl, by simp [vI]⟩⟩
theorem Rb.oneY {lo N : Nat} {w : World} {q : Ql} {s : St} (h : Rb lo N w q s) (hN : 1 ≤ N) (x : Int) : RDb lo N w ((w.alloc (.cells #[.int .i64 x] 3)).setCell ⟨q.g, 10, none⟩ (.slice (some ⟨w.heap.size, 0, none⟩) 1 1)) q { q with yv := .slice (some ⟨w.heap.size, 0, none⟩) 1 1, yl := [x] } s :=
  h.setY _ [x] (Dk.Fr.below (alloc_below w _)) (one_row w lo (by have := h.lg; have := Blk.lt h.blk; omega) x) (.inr (.inr fun i hi => by cases hi; exact Nat.le_refl _)) (Nat.le_refl _) hN
theorem RDb.am {lo N : Nat} {w w' : World} {q q' : Ql} {s s' : St} (h : RDb lo N w w' q q' s) (hc : rnC q' s' = rnC q' s) (hv : s'.vs = s.vs) (hl : s'.ls = s.ls) (ok : s'.Ok) : RDb lo N w w' q q' s' :=
  ⟨⟨by rw [hc]; exact h.rb.blk, h.rb.ry, h.rb.rn, h.rb.yn, by rw [hv]; exact h.rb.vs, by rw [hl]; exact h.rb.ls, by rw [hv]; exact h.rb.va, by rw [hl]; exact h.rb.la, h.rb.lg, h.rb.ny, h.rb.nn, ok⟩, h.fr, h.ft⟩
structure RD (lo N : Nat) (w w' : World) (q q' : Ql) (s' : St) : Prop where
  rm : Rm lo N w' q' s'
  fr : Dk.Fr q.foot w w'
  ft : ∀ i ∈ q'.foot, i ∈ q.foot ∨ w.heap.size ≤ i
theorem RD.same {lo N : Nat} {w w' : World} {q : Ql} {s : St} (h : Rm lo N w q s) (hb : Below w.heap.size w w') : RD lo N w w' q q s := ⟨h.below hb, Dk.Fr.below hb, fun i hi => .inl hi⟩
theorem RDb.rd {lo N : Nat} {w w' : World} {q q' : Ql} {s' : St} (h : RDb lo N w w' q q' s') (hy : ∀ x, hasI q'.yl x = (s'.am x == 1)) (hn : ∀ x, hasI q'.nl x = (s'.am x == 2)) : RD lo N w w' q q' s' := ⟨⟨h.rb, hy, hn⟩, h.fr, h.ft⟩
theorem RD.b {lo N : Nat} {w w' : World} {q q' : Ql} {s' : St} (h : RD lo N w w' q q' s') : RDb lo N w w' q q' s' := ⟨h.rm.rb, h.fr, h.ft⟩
theorem RD.then {lo N N' : Nat} {w w1 w' : World} {q q1 q' : Ql} {s1 s' : St} (h : RD lo N w w1 q q1 s1) (k : RD lo N' w1 w' q1 q' s') : RD lo N' w w' q q' s' := (h.b.then k.b).rd k.rm.hy k.rm.hn
theorem RD.to {lo N : Nat} {w w1 w' : World} {q q1 : Ql} {s1 : St} (h : RD lo N w w1 q q1 s1) (hb : Below w1.heap.size w1 w') : RD lo N w w' q q1 s1 := h.then (RD.same h.rm hb)
theorem RD.past {lo N : Nat} {w w1 w' : World} {q q' : Ql} {s' : St} (hb : Below w.heap.size w w1) (k : RD lo N w1 w' q q' s') : RD lo N w w' q q' s' := (RDb.past hb k.b).rd k.rm.hy k.rm.hn
theorem only_y (k x : Int) : hasI [k] x = (onlyA k x == 1) := by
  unfold hasI onlyA
  by_cases h : x = k <;> simp [h]
theorem only_n (k x : Int) : hasI [] x = (onlyA k x == 2) := by
  unfold hasI onlyA
  by_cases h : x = k <;> simp [h]
theorem none_y (x : Int) : hasI [] x = (noneA x == 1) := rfl
theorem none_n (x : Int) : hasI [] x = (noneA x == 2) := rfl
/-- whether those who said so win -/
theorem Rm.wins {lo N : Nat} {w : World} {q : Ql} {s : St} (h : Rm lo N w q s) : winsG s.vs s.ls q.yl = wonA s.vs s.am := by
  unfold winsG wonA
  rw [h.rb.ok.grp]
  have : cnt s.vs q.yl = s.vs.countP fun x => s.am x == 1 := by
    unfold cnt
    exact List.countP_congr fun x _ => by rw [h.hy x]
  rw [this]
  rfl
theorem Rm.lost {lo N : Nat} {w : World} {q : Ql} {s : St} (h : Rm lo N w q s) : lostG s.vs s.ls q.nl = lostA s.vs s.am := by
  unfold lostG lostA
  rw [h.rb.ok.grp]
  have : cnt s.vs q.nl = s.vs.countP fun x => s.am x == 2 := by
    unfold cnt
    exact List.countP_congr fun x _ => by rw [h.hn x]
  rw [this]
  rfl
theorem row_rdI {w : World} {lo n cap : Nat} {A : Option Addr} {l : List Int} (h : w.ownsRow lo 3 1 (.slice A n cap) n (vI l)) : RdI w A n l := by
  have hl : l.length = n := by have := h.1; rw [vI_len] at this; omega
  refine ⟨hl, by obtain ⟨_, _, he, _, h1, h2, _⟩ := row_slice h; cases he; omega, fun hn => ?_⟩
  rcases h.2 with ⟨_, h0⟩ | ⟨g', cap', cur, he, hg, hh, h4, h5, h6, h7⟩
  · omega
  · cases he
    refine ⟨g', 0, rfl, fun i hi => ?_⟩
    rw [Nat.zero_add]
    exact (row_cells h i _ (vI_at l i (by omega))).1
end Go.Proofs.Ytjajgjpkiofhmaa.El
