/-
  Layer 10: slices of pairs and of events, in memory, and opened to cells. Conditions: as each theorem states.
-/
import Derived.Test.YtjajgjpkiofhmaaElOpn
import Derived.Test.YtjajgjpkiofhmaaElV1
namespace Go.Proofs.Ytjajgjpkiofhmaa.El
open Go.RowKit Go.ChangeShapes Go.WideShapes Go.Deep Go.Proofs.Ytjajgjpkiofhmaa.Fld Go.Proofs.Ytjajgjpkiofhmaa.Qu
set_option linter.unusedVariables false

/-- a slice of pairs of numbers that can be read -/
def RdP (w : World) (A : Option Addr) (n : Nat) (l : List (Int × Int)) : Prop :=
  l.length = n ∧ n ≤ maxLen ∧ (0 < n → ∃ b off, A = some ⟨b, off, none⟩ ∧ ∀ i, i < n → w.cell? ⟨b, off + i * 2, none⟩ = some (.int .i64 (l.getD i (0, 0)).1) ∧ w.cell? ⟨b, off + i * 2 + 1, none⟩ = some (.int .i64 (l.getD i (0, 0)).2))
theorem RdP.below {w w' : World} {A : Option Addr} {n : Nat} {l : List (Int × Int)} (h : RdP w A n l) (hb : Below w.heap.size w w') : RdP w' A n l := by
  obtain ⟨h1, h2, h3⟩ := h
  refine ⟨h1, h2, fun hn => ?_⟩
  obtain ⟨b, off, rfl, hc⟩ := h3 hn
  exact ⟨b, off, rfl, fun i hi => ⟨(hb.cell (lt_of_cell (hc i hi).1)).trans (hc i hi).1, (hb.cell (lt_of_cell (hc i hi).2)).trans (hc i hi).2⟩⟩
def evC (e : Ev) : List Value := [.int .i64 e.d, .int .i64 e.who, .int .i64 e.n, .int .i64 e.draw]
def ev0 : Ev := ⟨0, 0, 0, 0⟩
/-- a slice of events that can be read -/
def RdEv (w : World) (A : Option Addr) (n : Nat) (l : List Ev) : Prop :=
  l.length = n ∧ n ≤ maxLen ∧ (0 < n → ∃ b off, A = some ⟨b, off, none⟩ ∧ ∀ i, i < n → ∀ j, j < 4 → w.cell? ⟨b, off + i * 4 + j, none⟩ = (evC (l.getD i ev0))[j]?)
theorem RdEv.at4 {w w' : World} {A : Option Addr} {n : Nat} {l : List Ev} (h : RdEv w A n l) (hb : Below w.heap.size w w') (k : Nat) (hk : k < n) : ∃ b off, A = some ⟨b, off, none⟩ ∧ w'.cell? ⟨b, off + k * 4, none⟩ = some (.int .i64 (l.getD k ev0).d) ∧ w'.cell? ⟨b, off + k * 4 + 1, none⟩ = some (.int .i64 (l.getD k ev0).who) ∧ w'.cell? ⟨b, off + k * 4 + 2, none⟩ = some (.int .i64 (l.getD k ev0).n) ∧ w'.cell? ⟨b, off + k * 4 + 3, none⟩ = some (.int .i64 (l.getD k ev0).draw) := by
  obtain ⟨b, off, hA, hc⟩ := h.2.2 (by omega)
  have key : ∀ j v, j < 4 → (evC (l.getD k ev0))[j]? = some v → w'.cell? ⟨b, off + k * 4 + j, none⟩ = some v := fun j v hj hv => by
    have h1 := hc k hk j hj
    rw [hv] at h1
    exact (hb.cell (lt_of_cell h1)).trans h1
  exact ⟨b, off, hA, key 0 _ (by omega) rfl, key 1 _ (by omega) rfl, key 2 _ (by omega) rfl, key 3 _ (by omega) rfl⟩
section
variable {H : Type} {encH : TypeId × Value → H} {w : World} {base : Nat} {spare : Nat → Bool} {held : Bool}
set_option maxRecDepth 100000 in
theorem open_event {n : Nat} {cs : List Value} {x : DataW H × List MemPlace} (h : DataW.trod encH Try.prog w base spare held n 64 cs = some x) (hl : cs.length = 4) : ∃ e : Ev, cs = evC e := by
  obtain ⟨ys, n', _, _, _, hyl, hf⟩ := DataW.trod_struct Try.underlying64 h
  have hsz : ys.length = 4 := hyl
  obtain ⟨a, c0⟩ := int_of (off := 0) (by rw [List.getElem?_eq_getElem (by omega)]; rfl) (by omega) (hf 0 _ rfl)
  obtain ⟨b, c1⟩ := int_of (off := 1) (by rw [List.getElem?_eq_getElem (by omega)]; rfl) (by omega) (hf 1 _ rfl)
  obtain ⟨c, c2⟩ := int_of (off := 2) (by rw [List.getElem?_eq_getElem (by omega)]; rfl) (by omega) (hf 2 _ rfl)
  obtain ⟨d, c3⟩ := int_of (off := 3) (by rw [List.getElem?_eq_getElem (by omega)]; rfl) (by omega) (hf 3 _ rfl)
  refine ⟨⟨a, b, c, d⟩, ?_⟩
  apply List.ext_getElem?
  intro k
  rcases k with _ | _ | _ | _ | k
  · rw [c0]; rfl
  · rw [c1]; rfl
  · rw [c2]; rfl
  · rw [c3]; rfl
  · rw [List.getElem?_eq_none (by omega), List.getElem?_eq_none (by simp [evC])]
set_option maxRecDepth 100000 in
theorem open_events {fuel : Nat} {A : Option Addr} {len cap : Nat} {x : DataW H × List MemPlace} (h : DataW.trod encH Try.prog w base spare held fuel 55 [.slice A len cap] = some x) : ∃ l, RdEv w A len l := by
  rcases open_slice Try.underlying55 h with ⟨hcs, _⟩ | ⟨a, len', cap', m, n, D, Pl, hcs, hb, hl, hm, hmm, hx, hi⟩
  · simp at hcs
    obtain ⟨rfl, rfl, rfl⟩ := hcs
    exact ⟨[], rfl, by unfold maxLen; omega, fun h => by omega⟩
  · simp at hcs
    obtain ⟨rfl, rfl, rfl⟩ := hcs
    have hlm : len ≤ m := by rw [hmm]; split <;> omega
    have hC : Try.prog.cellsOf 64 = 4 := by kernel_rfl
    have each : ∀ i, ∃ q : Ev, i < len → ∀ j, j < 4 → w.cell? (a.add (i * 4 + j)) = (evC q)[j]? := by
      intro i
      by_cases hil : i < len
      · obtain ⟨cs', hc, ht'⟩ := hi i (by omega)
        rw [hC] at hc
        obtain ⟨_, hcl, hat⟩ := World.cells?_some hc
        obtain ⟨q, he⟩ := open_event ht' (by omega)
        refine ⟨q, fun _ j hj => ?_⟩
        rw [← he, ← hat j (by omega), add_add]
      · exact ⟨ev0, fun h => absurd h hil⟩
    obtain ⟨f, hf⟩ := Classical.axiomOfChoice each
    clear each
    refine ⟨(List.range len).map f, by simp, by omega, fun hp => ?_⟩
    obtain ⟨b, off, sp⟩ := a
    have hspot : sp = none := by
      have h0 := hf 0 hp 0 (by omega)
      have h1 : w.cell? ((⟨b, off, sp⟩ : Addr).add (0 * 4 + 0)) = some (.int .i64 (f 0).d) := h0
      simpa [Addr.add] using World.cell?_spot h1
    subst hspot
    refine ⟨b, off, rfl, fun i hil j hj => ?_⟩
    have hq := hf i hil j hj
    rw [addB, ← Nat.add_assoc] at hq
    rw [hq]
    simp [hil]
set_option maxRecDepth 100000 in
theorem open_pairs {fuel : Nat} {A : Option Addr} {len cap : Nat} {x : DataW H × List MemPlace} (h : DataW.trod encH Try.prog w base spare held fuel 54 [.slice A len cap] = some x) : ∃ l, RdP w A len l := by
  rcases open_slice Try.underlying54 h with ⟨hcs, _⟩ | ⟨a, len', cap', m, n, D, Pl, hcs, hb, hl, hm, hmm, hx, hi⟩
  · simp at hcs
    obtain ⟨rfl, rfl, rfl⟩ := hcs
    exact ⟨[], rfl, by unfold maxLen; omega, fun h => by omega⟩
  · simp at hcs
    obtain ⟨rfl, rfl, rfl⟩ := hcs
    have hlm : len ≤ m := by rw [hmm]; split <;> omega
    have hC : Try.prog.cellsOf 38 = 2 := by kernel_rfl
    have each : ∀ i, ∃ q : Int × Int, i < len → ∀ j, j < 2 → w.cell? (a.add (i * 2 + j)) = ([.int .i64 q.1, .int .i64 q.2] : List Value)[j]? := by
      intro i
      by_cases hil : i < len
      · obtain ⟨cs', hc, ht'⟩ := hi i (by omega)
        rw [hC] at hc
        obtain ⟨_, hcl, hat⟩ := World.cells?_some hc
        obtain ⟨q1, q2, he⟩ := open_two ht' (by omega)
        refine ⟨(q1, q2), fun _ j hj => ?_⟩
        rw [← he, ← hat j (by omega), add_add]
      · exact ⟨(0, 0), fun h => absurd h hil⟩
    obtain ⟨f, hf⟩ := Classical.axiomOfChoice each
    clear each
    refine ⟨(List.range len).map f, by simp, by omega, fun hp => ?_⟩
    obtain ⟨b, off, sp⟩ := a
    have hspot : sp = none := by
      have h0 := hf 0 hp 0 (by omega)
      have h1 : w.cell? ((⟨b, off, sp⟩ : Addr).add (0 * 2 + 0)) = some (.int .i64 (f 0).1) := h0
      simpa [Addr.add] using World.cell?_spot h1
    subst hspot
    refine ⟨b, off, rfl, fun i hil => ?_⟩
    have hq0 := hf i hil 0 (by omega)
    have hq1 := hf i hil 1 (by omega)
    rw [addB, ← Nat.add_assoc] at hq0 hq1
    rw [Nat.add_zero] at hq0
    rw [hq0, hq1]
    simp [hil]
end
end Go.Proofs.Ytjajgjpkiofhmaa.El
