/-
  The two disks side by side, in memory that they do not share (Pair): what the one's calls leave of the other. Conditions: as each theorem states.
-/
import Derived.Test.YthdpdhjhpbkhaaaDiskRefM
namespace Go.Proofs.Ythdpdhjhpbkhaaa.Dk
open Go.RowKit Go.Proofs.Ythdpdhjhpbkhaaa.Fld

theorem Rf.foot_lt {w : World} {r : Nat} {lv : Value} {m : List Ent} {t : St} (h : Rf w r lv m t) : ∀ i ∈ rfoot r lv m, i < w.heap.size := by
  intro i hi
  simp only [rfoot, List.mem_cons, List.mem_append, Option.mem_toList] at hi
  rcases hi with rfl | hi | hi
  · exact h.lt.1
  · exact h.lt.2 i hi
  · exact h.bl i hi
structure Pair (w0 w : World) (g b : Nat) (m : List Ent) (t : St) (r : Nat) (lv : Value) (mr : List Ent) (tr : St) : Prop where
  sn : Sn w0 w g b m t
  rf : Rf w r lv mr tr
  new : ∀ i ∈ rfoot r lv mr, w0.heap.size ≤ i
  apart : ∀ i ∈ g :: b :: blks m, i ∉ rfoot r lv mr
theorem Pair.below {w0 w w' : World} {g b : Nat} {m : List Ent} {t : St} {r : Nat} {lv : Value} {mr : List Ent} {tr : St} (h : Pair w0 w g b m t r lv mr tr) (hb : Below w.heap.size w w') : Pair w0 w' g b m t r lv mr tr :=
  ⟨h.sn.below hb, h.rf.of_blocks fun i hi => hb.block i (h.rf.foot_lt i hi), h.new, h.apart⟩
/-- the program's disk did something -/
theorem Pair.left {w0 w w' : World} {g b : Nat} {m : List Ent} {t t' : St} {r : Nat} {lv : Value} {mr : List Ent} {tr : St} (h : Pair w0 w g b m t r lv mr tr) (hL : Left w g b m t' w') : ∃ m', Pair w0 w' g b m' t' r lv mr tr := by
  obtain ⟨m', h1, h2, h3⟩ := hL
  refine ⟨m', ⟨⟨h1, h2.to_below h.sn.2.1 h.sn.2.2, ?_⟩, h.rf.of_blocks fun i hi => h2.block i (h.rf.foot_lt i hi) (fun hm => h.apart i hm hi), h.new, ?_⟩⟩
  · intro i hi
    simp only [List.mem_cons] at hi
    rcases hi with rfl | rfl | hi
    · exact h.sn.2.2 _ (by simp)
    · exact h.sn.2.2 _ (by simp)
    · rcases h3 i hi with h4 | h4
      · exact h.sn.2.2 i (by simp [h4])
      · exact Nat.le_trans h.sn.2.1.size h4
  · intro i hi hr
    simp only [List.mem_cons] at hi
    rcases hi with rfl | rfl | hi
    · exact h.apart _ (by simp) hr
    · exact h.apart _ (by simp) hr
    · rcases h3 i hi with h4 | h4
      · exact h.apart i (by simp [h4]) hr
      · have := h.rf.foot_lt i hr; omega
/-- the document's own disk did something -/
theorem Pair.rleft {w0 w w' : World} {g b : Nat} {m : List Ent} {t : St} {r : Nat} {lv : Value} {mr : List Ent} {tr tr' : St} (h : Pair w0 w g b m t r lv mr tr) (hL : RLeft w r lv mr tr' w') : ∃ lv' mr', Pair w0 w' g b m t r lv' mr' tr' := by
  obtain ⟨lv', mr', h1, h2, h3⟩ := hL
  have hsub : ∀ i ∈ r :: lv.ownBlock.toList, i ∈ rfoot r lv mr := by
    intro i hi
    simp only [rfoot, List.mem_cons, List.mem_append] at hi ⊢
    rcases hi with hi | hi
    · exact .inl hi
    · exact .inr (.inl hi)
  refine ⟨lv', mr', ⟨⟨h.sn.1.frame h2 (fun i hi hm => h.apart i hm (hsub i hi)), h2.to_below h.sn.2.1 (fun i hi => h.new i (hsub i hi)), h.sn.2.2⟩, h1, ?_, ?_⟩⟩
  · intro i hi
    rcases h3 i hi with h4 | h4
    · exact h.new i h4
    · exact Nat.le_trans h.sn.2.1.size h4
  · intro i hi hr
    rcases h3 i hr with h4 | h4
    · exact h.apart i hi h4
    · have := h.sn.1.lt i hi; omega
/-- bytes that were there ahead of both are as they were -/
theorem Pair.rd {w0 w : World} {g b : Nat} {m : List Ent} {t : St} {r : Nat} {lv : Value} {mr : List Ent} {tr : St} (h : Pair w0 w g b m t r lv mr tr) {A : Option Addr} {n : Nat} {zs : List Int} (hr : Rd w0 A n zs) : Rd w A n zs := hr.below h.sn.2.1
/-- a new one -/
theorem rnew_rf (room : Nat) (w : World) (h1 : 1 ≤ room) (h2 : room ≤ 16777216) : Calls Try.prog 11 #[.int .i64 (room : Int)] w fun e w' =>
    ∃ r, e = .returned (.tuple #[.pointer (some ⟨r, 0, none⟩), .int .i64 0]) ∧ w.heap.size ≤ r ∧ Rf w' r (.slice none 0 0) [] (st0 room) ∧ Below w.heap.size w w' := by
  refine (rnew_ok (room : Int) w (by omega) (by omega)).mono ?_
  rintro e w' ⟨r, he, hr, hd, hB⟩
  exact ⟨r, he, hr, ⟨⟨none, 0, 0, rfl, hd⟩, ⟨rfl, .inl ⟨rfl, rfl⟩⟩, (fun e he => by simp at he), rfl, good0 room h1 h2, ⟨(fun h => by cases h), (fun i hi => by simp [blks] at hi)⟩, (fun k hk => by cases hk), (fun k hk => by cases hk), (fun i hi => by simp [blks] at hi)⟩, hB⟩
/-- both, side by side -/
theorem Pair.start {w0 w w' : World} {g b : Nat} {m : List Ent} {t : St} {r : Nat} {tr : St} (h : Sn w0 w g b m t) (hr : w.heap.size ≤ r) (hR : Rf w' r (.slice none 0 0) [] tr) (hB : Below w.heap.size w w') : Pair w0 w' g b m t r (.slice none 0 0) [] tr := by
  refine ⟨h.below hB, hR, ?_, ?_⟩
  · intro i hi
    simp [rfoot, Value.ownBlock, blks] at hi
    have := h.2.1.size
    omega
  · intro i hi hm
    simp [rfoot, Value.ownBlock, blks] at hm
    have := h.1.lt i hi
    omega
end Go.Proofs.Ythdpdhjhpbkhaaa.Dk
