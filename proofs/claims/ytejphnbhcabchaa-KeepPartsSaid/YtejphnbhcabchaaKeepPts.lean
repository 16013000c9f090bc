/-
  Layer 7, for the law KeepParts: slices of pairs of numbers (RdP); both Wholes in memory that they do not share (PtS). Conditions: as each theorem states.
-/
import Derived.Test.YtejphnbhcabchaaKeepR
import Derived.Test.YtejphnbhcabchaaKeepAw
import Derived.Test.YtejphnbhcabchaaRecRdL
import Derived.Deep.Slices
import Derived.Deep.Fields
import Derived.ChangeSame
namespace Go.Proofs.Ytejphnbhcabchaa.Kp
open Go.RowKit Go.Proofs.Ytejphnbhcabchaa.Fld
set_option linter.unusedVariables false

def RdP (w : World) (A : Option Addr) (n : Nat) (ps : List (Int × Int)) : Prop :=
  ps.length = n ∧ n ≤ maxLen ∧ (0 < n → ∃ b off, A = some ⟨b, off, none⟩ ∧ ∀ i, i < n → w.cell? ⟨b, off + i * 2, none⟩ = some (.int .i64 (ps.getD i (0, 0)).1) ∧ w.cell? ⟨b, off + i * 2 + 1, none⟩ = some (.int .i64 (ps.getD i (0, 0)).2)) ∧ ∀ p ∈ ps, p.1 ≤ 9223372036854775807
theorem RdP.below {w w' : World} {A : Option Addr} {n : Nat} {ps : List (Int × Int)} (h : RdP w A n ps) (hb : Below w.heap.size w w') : RdP w' A n ps := by
  obtain ⟨h1, h2, h3, h4⟩ := h
  refine ⟨h1, h2, fun hn => ?_, h4⟩
  obtain ⟨b, off, e, hc⟩ := h3 hn
  refine ⟨b, off, e, fun i hi => ?_⟩
  obtain ⟨c0, c1⟩ := hc i hi
  exact ⟨(hb.cell (lt_of_cell c0)).trans c0, (hb.cell (lt_of_cell c1)).trans c1⟩
theorem stPut_len {p tot : Int} {b : List Int} {t : WhS} (h : t.zs.length ≤ 65536) : (stPut p tot b t).2.zs.length ≤ 65536 := by
  unfold stPut
  split
  · exact h
  · split
    · simp only; omega
    · split
      · exact h
      · simp only [List.length_append]; omega
structure PtS (w1 W : World) (G G' : Nat) (v vr : Value) (t : WhS) : Prop where
  wh : Wh w1 W G v t
  rh : Rh w1 W G' vr t
  ap : ∀ i, v.ownBlock = some i → vr.ownBlock ≠ some i
  ne : G ≠ G'
  len : t.zs.length ≤ 65536
theorem PtS.below {w1 W W' : World} {G G' : Nat} {v vr : Value} {t : WhS} (h : PtS w1 W G G' v vr t) (hb : Below W.heap.size W W') : PtS w1 W' G G' v vr t := ⟨h.wh.below hb, h.rh.below hb, h.ap, h.ne, h.len⟩
theorem PtS.one {w1 W W' : World} {G G' : Nat} {v vr v' : Value} {t : WhS} (h : PtS w1 W G G' v vr t) (hf : Dk.Fr (G :: v.ownBlock.toList) W W') (hv : ∀ i, v'.ownBlock = some i → v.ownBlock = some i ∨ W.heap.size ≤ i) :
    Rh w1 W' G' vr t ∧ ∀ i, v'.ownBlock = some i → vr.ownBlock ≠ some i := by
  have hnv : ∀ i, v.ownBlock = some i → i ≠ G' := own_ne h.wh.own h.rh.blk (by decide)
  have hnr : ∀ i, vr.ownBlock = some i → i ≠ G := own_ne h.rh.own h.wh.blk (by decide)
  refine ⟨h.rh.fr hf ?_ ?_ ?_, ?_⟩
  · intro hm
    rcases List.mem_cons.1 hm with hm | hm
    · exact h.ne hm.symm
    · exact hnv G' (by simpa using hm) rfl
  · intro i hi hm
    rcases List.mem_cons.1 hm with hm | hm
    · exact hnr i hi hm
    · exact h.ap i (by simpa using hm) hi
  · intro i hm
    rcases List.mem_cons.1 hm with hm | hm
    · rw [hm]; exact h.wh.ge
    · exact (own_block h.wh.own (by simpa using hm)).1
  · intro i hi hr
    rcases hv i hi with h1 | h1
    · exact h.ap i h1 hr
    · obtain ⟨_, cur, hh⟩ := own_block h.rh.own hr
      rw [Array.getElem?_eq_none h1] at hh
      cases hh
theorem PtS.two {w1 W W' : World} {G G' : Nat} {v vr vr' : Value} {t t' : WhS} (hw : Wh w1 W G v t') (hr : Rh w1 W G' vr t) (hap : ∀ i, v.ownBlock = some i → vr.ownBlock ≠ some i) (hne : G ≠ G') (hl : t'.zs.length ≤ 65536)
    (hr' : Rh w1 W' G' vr' t') (hf : Dk.Fr (G' :: vr.ownBlock.toList) W W') (hv : ∀ i, vr'.ownBlock = some i → vr.ownBlock = some i ∨ W.heap.size ≤ i) : PtS w1 W' G G' v vr' t' := by
  have hnv : ∀ i, v.ownBlock = some i → i ≠ G' := own_ne hw.own hr.blk (by decide)
  have hnr : ∀ i, vr.ownBlock = some i → i ≠ G := own_ne hr.own hw.blk (by decide)
  refine ⟨hw.fr hf ?_ ?_ ?_, hr', ?_, hne, hl⟩
  · intro hm
    rcases List.mem_cons.1 hm with hm | hm
    · exact hne hm
    · exact hnr G (by simpa using hm) rfl
  · intro i hi hm
    rcases List.mem_cons.1 hm with hm | hm
    · exact hnv i hi hm
    · exact hap i hi (by simpa using hm)
  · intro i hm
    rcases List.mem_cons.1 hm with hm | hm
    · rw [hm]; exact hr.ge
    · exact (own_block hr.own (by simpa using hm)).1
  · intro i hi hr2
    rcases hv i hr2 with h1 | h1
    · exact hap i hi h1
    · obtain ⟨_, cur, hh⟩ := own_block hw.own hi
      rw [Array.getElem?_eq_none h1] at hh
      cases hh
section
open Go.ChangeShapes Go.WideShapes Go.Deep
variable {H : Type} {encH : TypeId × Value → H} {w : World} {base : Nat} {spare : Nat → Bool} {held : Bool}
theorem one_cell {α : Type} {l : List α} (j : Nat) {v : α} (h : l[j]? = some v) : (l.drop j).take 1 = [v] := by
  obtain ⟨hj, he⟩ := List.getElem?_eq_some_iff.1 h
  rw [List.drop_eq_getElem_cons hj, he]
  rfl
set_option maxRecDepth 100000 in
theorem open_pairs {fuel : Nat} {A : Option Addr} {len cap : Nat} {x : DataW H × List MemPlace} (h : DataW.trod encH Try.prog w base spare held fuel 23 [.slice A len cap] = some x) : ∃ qs, RdP w A len qs := by
  rcases open_slice Try.underlying23 h with ⟨hcs, _⟩ | ⟨a, len', cap', m, n, D, Pl, hcs, hb, hl, hm, hmm, hx, hi⟩
  · simp at hcs
    obtain ⟨rfl, rfl, rfl⟩ := hcs
    exact ⟨[], rfl, by unfold maxLen; omega, (fun h => by omega), fun p hp => by simp at hp⟩
  · simp at hcs
    obtain ⟨rfl, rfl, rfl⟩ := hcs
    have hlm : len ≤ m := by rw [hmm]; split <;> omega
    have hC : Try.prog.cellsOf 35 = 2 := by kernel_rfl
    have each : ∀ i, ∃ q : Int × Int, i < len → w.cell? (a.add (i * 2)) = some (.int .i64 q.1) ∧ w.cell? (a.add (i * 2 + 1)) = some (.int .i64 q.2) ∧ q.1 ≤ 9223372036854775807 := by
      intro i
      by_cases hil : i < len
      · obtain ⟨cs', hc, ht'⟩ := hi i (by omega)
        rw [hC] at hc
        obtain ⟨_, hcl, hat⟩ := World.cells?_some hc
        have hI : Try.prog.cellsOf 3 = 1 := by kernel_rfl
        match cs', hcl with
        | [v0, v1], _ =>
          obtain ⟨xs, m', _, _, _, hl', hx'⟩ := DataW.trod_array Try.underlying35 ht'
          have x0 := hx' 0 (by omega)
          have x1 := hx' 1 (by omega)
          rw [hI, List.getElem?_eq_getElem (by omega)] at x0 x1
          obtain ⟨n0, e0, _, w0⟩ := DataW.trod_int Try.underlying3 x0
          obtain ⟨n1, e1, _, w1⟩ := DataW.trod_int Try.underlying3 x1
          simp at e0 e1
          subst e0 e1
          refine ⟨(n0, n1), fun _ => ⟨?_, ?_, (i64_of_wf w0).2⟩⟩
          · have := hat 0 (by omega)
            rw [add_add, Nat.add_zero] at this
            exact this
          · have := hat 1 (by omega)
            rw [add_add] at this
            exact this
      · exact ⟨(0, 0), fun h => absurd h hil⟩
    obtain ⟨f, hf⟩ := Classical.axiomOfChoice each
    clear each
    refine ⟨(List.range len).map f, by simp, by omega, (fun hp => ?_), fun p hp => ?_⟩
    · obtain ⟨b, off, sp⟩ := a
      have hspot : sp = none := by
        have h0 := (hf 0 hp).1
        simpa [Addr.add] using World.cell?_spot h0
      subst hspot
      refine ⟨b, off, rfl, fun i hil => ?_⟩
      have hq := hf i hil
      have ea : ∀ k, (⟨b, off, none⟩ : Addr).add k = ⟨b, off + k, none⟩ := fun k => by unfold Addr.add; split <;> simp_all
      rw [ea, ea, ← Nat.add_assoc] at hq
      simp [hil]
      exact ⟨hq.1, hq.2.1⟩
    · simp only [List.mem_map, List.mem_range] at hp
      obtain ⟨i, hi, rfl⟩ := hp
      exact (hf i hi).2.2
end
end Go.Proofs.Ytejphnbhcabchaa.Kp
