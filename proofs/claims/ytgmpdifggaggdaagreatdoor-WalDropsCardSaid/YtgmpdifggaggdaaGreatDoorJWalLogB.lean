/-
  Several texts in one: Layer 6: a log and its segments in memory: last, restart, cut, lastSegment. Conditions: as each theorem states. Layer 6: the content of a disk in memory (Cont), and content.follows. Conditions: as each theorem states. Layer 6: content.follows in the program. Conditions: the content lies in memory (Cont). Layer 6: content.begin in the program. Conditions: as each theorem states. Layer 6: log.cut in the program. Conditions: the log's entries are a row of the program's own.
-/
import Derived.Test.YtgmpdifggaggdaaGreatDoorJWalLog
import Derived.Deep.QuietTactic
import Derived.Deep.RegionLaw
import Derived.Deep.RegionWith
namespace Go.Proofs.YtgmpdifggaggdaaGreatDoor.Wl
open Go.RowKit Go.Proofs.YtgmpdifggaggdaaGreatDoor.Fld
set_option linter.unusedVariables false

theorem Blk.still {w w' : World} {B : Nat} {cs : Array Value} {ty : TypeId} (h : Blk w B cs ty) (hs : Still w w') : Blk w' B cs ty := h.of (by rw [hs.1])
set_option maxRecDepth 100000 in
set_option maxHeartbeats 1600000 in
theorem last_dr (B o : Nat) (cs : Array Value) (ty : TypeId) (base n cap : Nat) (A : Option Addr) (w : World) (hB : Blk w B cs ty) (h0 : cs[o]? = some (.int .i64 (base : Int))) (h1 : cs[o + 1]? = some (.slice A n cap)) (hb : base + n ≤ 4611686018427387904) :
    Calls Tryz.prog 24 #[.pointer (some ⟨B, o, none⟩)] w fun e w' => e = .returned (.int .i64 ((base + n : Nat) : Int)) ∧ ∃ m, w' = w.drewN m := by
  have c0 := hB.cell _ _ h0
  have c1 := hB.cell _ _ h1
  have e1 : ((base + n : Nat) : Int) = (base : Int) + (n : Int) := by omega
  rw [e1]
  have e2 : wrap64 ((base : Int) + (n : Int)) = (base : Int) + (n : Int) := by unfold wrap64; omega
  clear hB h0 h1 e1
  go_enter Tryz.func24, Tryz.ntmps24
  go_wp2_with fail
  go_quiet (fail)
  go_wp2
  go_ret
  exact ⟨rfl, _, rfl⟩
theorem last_any (B o : Nat) (cs : Array Value) (ty : TypeId) (base n cap : Nat) (A : Option Addr) (w : World) (hB : Blk w B cs ty) (h0 : cs[o]? = some (.int .i64 (base : Int))) (h1 : cs[o + 1]? = some (.slice A n cap)) (hb : base + n ≤ 4611686018427387904) :
    Calls Tryz.prog 24 #[.pointer (some ⟨B, o, none⟩)] w fun e w' => e = .returned (.int .i64 ((base + n : Nat) : Int)) ∧ Still w w' :=
  (last_dr B o cs ty base n cap A w hB h0 h1 hb).mono (fun _ _ ⟨he, _, hw⟩ => ⟨he, by rw [hw]; exact Still.drewN (Still.refl _) _⟩)
set_option maxRecDepth 100000 in
set_option maxHeartbeats 1600000 in
theorem restart_any (B o : Nat) (cs : Array Value) (ty : TypeId) (i : Nat) (w : World) (hB : Blk w B cs ty) (u0 u1 : Value) (h0 : cs[o]? = some u0) (h1 : cs[o + 1]? = some u1) (hi : 1 ≤ i) (hi2 : i ≤ 4611686018427387904) :
    Calls Tryz.prog 90 #[.pointer (some ⟨B, o, none⟩), .int .i64 (i : Int)] w fun e w' => e = .returned (.tuple #[]) ∧ Blk w' B ((cs.setIfInBounds o (.int .i64 ((i - 1 : Nat) : Int))).setIfInBounds (o + 1) (.slice none 0 0)) ty ∧ Dk.Fr [B] w w' := by
  have c0 := hB.cell _ _ h0
  have c1 := hB.cell _ _ h1
  have f0 := hB.free o
  have f1 := hB.free (o + 1)
  have s0 : o < cs.size := by
    rcases Nat.lt_or_ge o cs.size with h | h
    · exact h
    · rw [Array.getElem?_eq_none h] at h0; cases h0
  have s1 : o + 1 < cs.size := by
    rcases Nat.lt_or_ge (o + 1) cs.size with h | h
    · exact h
    · rw [Array.getElem?_eq_none h] at h1; cases h1
  have HB1 := Lib.hid (hB.set o (.int .i64 ((i - 1 : Nat) : Int)) s0)
  have HB2 := Lib.hid (HB1.out.set (o + 1) (.slice none 0 0) (by simpa using s1))
  have HF := Lib.hid (((Dk.Fr.refl [B] w).setCell ⟨B, o, none⟩ (.inl (by simp)) (.int .i64 ((i - 1 : Nat) : Int))).setCell ⟨B, o + 1, none⟩ (.inl (by simp)) (.slice none 0 0))
  have e1 : ((i - 1 : Nat) : Int) = (i : Int) - 1 := by omega
  rw [e1] at HB1 HB2 HF ⊢
  have e2 : wrap64 ((i : Int) - 1) = (i : Int) - 1 := by unfold wrap64; omega
  clear hB h0 h1 e1 s0 s1
  go_enter Tryz.func90, Tryz.ntmps90
  go_wp2
  go_end0
  exact ⟨rfl, HB2.out, HF.out⟩
set_option maxRecDepth 100000 in
set_option maxHeartbeats 1600000 in
theorem lastSeg_dr (B o q m cap : Nat) (cs : Array Value) (ty : TypeId) (w : World) (hB : Blk w B cs ty) (h2 : cs[o + 2]? = some (.slice (some ⟨q, 0, none⟩) m cap)) (hm : 0 < m) (hmm : m ≤ 4611686018427387904) :
    Calls Tryz.prog 38 #[.pointer (some ⟨B, o, none⟩)] w fun e w' => e = .returned (.pointer (some ⟨q, (m - 1) * 3, none⟩)) ∧ ∃ m, w' = w.drewN m := by
  have c1 := hB.cell _ _ h2
  obtain ⟨k, rfl⟩ : ∃ k, m = k + 1 := ⟨m - 1, by omega⟩
  have e2 : wrap64 (((k + 1 : Nat) : Int) - 1) = (k : Int) := by unfold wrap64; omega
  have e3 : (0 : Int) ≤ (k : Int) := by omega
  have e4 : (k : Int) < ((k + 1 : Nat) : Int) := by omega
  rw [Nat.add_sub_cancel]
  clear hB h2
  go_enter Tryz.func38, Tryz.ntmps38
  go_wp2_with fail
  go_quiet (fail)
  go_wp2
  go_ret
  exact ⟨rfl, _, rfl⟩
theorem lastSeg_any (B o q m cap : Nat) (cs : Array Value) (ty : TypeId) (w : World) (hB : Blk w B cs ty) (h2 : cs[o + 2]? = some (.slice (some ⟨q, 0, none⟩) m cap)) (hm : 0 < m) (hmm : m ≤ 4611686018427387904) :
    Calls Tryz.prog 38 #[.pointer (some ⟨B, o, none⟩)] w fun e w' => e = .returned (.pointer (some ⟨q, (m - 1) * 3, none⟩)) ∧ Still w w' :=
  (lastSeg_dr B o q m cap cs ty w hB h2 hm hmm).mono (fun _ _ ⟨he, _, hw⟩ => ⟨he, by rw [hw]; exact Still.drewN (Still.refl _) _⟩)
end Go.Proofs.YtgmpdifggaggdaaGreatDoor.Wl

namespace Go.Proofs.YtgmpdifggaggdaaGreatDoor.Wl
open Go.RowKit Go.Proofs.YtgmpdifggaggdaaGreatDoor.Fld
set_option linter.unusedVariables false

/-- a content lies at the cells o, o + 1, o + 2 of block B -/
structure Cont (lo B o : Nat) (cs : Array Value) (ty : TypeId) (w : World) (ve vs : Value) (xs : List EA) (c : Ct) : Prop where
  blk : Blk w B cs ty
  c0 : cs[o]? = some (.int .i64 (c.lg.base : Int))
  c1 : cs[o + 1]? = some ve
  c2 : cs[o + 2]? = some vs
  es : c.lg.es = xs.map EA.e
  rE : w.ownsRow lo 49 4 ve xs.length (rowE xs)
  rS : w.ownsRow lo 69 3 vs c.segs.length (rowS c.segs)
  dat : ∀ x ∈ xs, DatAt lo w x
  ok : c.Ok
  t1 : 49 ≠ ty
  t2 : 69 ≠ ty
  t3 : 5 ≠ ty
/-- the blocks of a content -/
def InFoot (B : Nat) (ve vs : Value) (xs : List EA) (i : Nat) : Prop := i = B ∨ ve.ownBlock = some i ∨ vs.ownBlock = some i ∨ ∃ x ∈ xs, (Value.slice x.A x.e.data.length x.cap).ownBlock = some i
theorem Cont.of {lo B o : Nat} {cs : Array Value} {ty : TypeId} {w w' : World} {ve vs : Value} {xs : List EA} {c : Ct} (h : Cont lo B o cs ty w ve vs xs c) (hb : ∀ i, InFoot B ve vs xs i → w'.heap[i]? = w.heap[i]?) : Cont lo B o cs ty w' ve vs xs c :=
  ⟨h.blk.of (hb B (.inl rfl)), h.c0, h.c1, h.c2, h.es, row_of h.rE (fun i hi => hb i (.inr (.inl hi))), row_of h.rS (fun i hi => hb i (.inr (.inr (.inl hi)))), fun x hx => (h.dat x hx).of (fun i hi => hb i (.inr (.inr (.inr ⟨x, hx, hi⟩)))), h.ok, h.t1, h.t2, h.t3⟩
theorem Cont.lt {lo B o : Nat} {cs : Array Value} {ty : TypeId} {w : World} {ve vs : Value} {xs : List EA} {c : Ct} (h : Cont lo B o cs ty w ve vs xs c) : ∀ i, InFoot B ve vs xs i → i < w.heap.size := by
  rintro i (rfl | hi | hi | ⟨x, hx, hi⟩)
  · exact h.blk.lt
  · exact (row_lo h.rE i hi).2
  · exact (row_lo h.rS i hi).2
  · exact (row_lo (h.dat x hx).2 i hi).2
theorem Cont.below {lo B o : Nat} {cs : Array Value} {ty : TypeId} {w w' : World} {ve vs : Value} {xs : List EA} {c : Ct} (h : Cont lo B o cs ty w ve vs xs c) (hb : Below w.heap.size w w') : Cont lo B o cs ty w' ve vs xs c := h.of (fun i hi => hb.block i (h.lt i hi))
/-- the last segment's cells -/
theorem seg_cell {w : World} {lo m cap q : Nat} {l : List Sg} {s : Sg} (h : w.ownsRow lo 69 3 (.slice (some ⟨q, 0, none⟩) m cap) m (rowS (l ++ [s]))) (hm : m = l.length + 1) (k : Nat) (v : Value) (hk : s.cells[k]? = some v) : w.cell? ⟨q, (m - 1) * 3 + k, none⟩ = some v := by
  rcases h.2 with ⟨hv, _⟩ | ⟨g, cp, cur, hv, hg, hb, hn, hc, hcs, hcu⟩
  · cases hv
  · simp only [Value.slice.injEq, Option.some.injEq, Addr.mk.injEq] at hv
    obtain ⟨⟨rfl, _, _⟩, _, rfl⟩ := hv
    have hk3 : k < 3 := by
      rcases Nat.lt_or_ge k 3 with h | h
      · exact h
      · rw [List.getElem?_eq_none (by simpa [Sg.cells] using h)] at hk; cases hk
    rw [cell_of_row w q _ _ _ (0, 0) hb, ← Array.getElem?_toList]
    have e : (cur.toList.take (m * 3))[(m - 1) * 3 + k]? = some v := by
      rw [hcu, rowS_append, List.getElem?_append_right (by rw [rowS_len]; omega), rowS_len]
      rw [show (m - 1) * 3 + k - l.length * 3 = k by omega]
      simpa [rowS] using hk
    rwa [List.getElem?_take, if_pos (by omega)] at e
theorem snoc_of {α : Type} (l : List α) (h : l ≠ []) : ∃ a b, l = a ++ [b] := ⟨l.dropLast, l.getLast h, (List.dropLast_concat_getLast h).symm⟩
end Go.Proofs.YtgmpdifggaggdaaGreatDoor.Wl

namespace Go.Proofs.YtgmpdifggaggdaaGreatDoor.Wl
open Go.RowKit Go.Proofs.YtgmpdifggaggdaaGreatDoor.Fld
set_option linter.unusedVariables false

def headC (n i : Nat) : Array Value := #[.int .i64 0, .int .i64 (n : Int), .int .i64 (i : Int), .int .i64 0, .int .i64 0, .int .i64 0, .slice none 0 0]
theorem Blk.drewN {w : World} {B : Nat} {cs : Array Value} {ty : TypeId} (h : Blk w B cs ty) (k : Nat) : Blk (w.drewN k) B cs ty := h
theorem wrap_in' (z : Int) (h0 : -9223372036854775808 ≤ z) (h1 : z ≤ 9223372036854775807) : IntKind.i64.wrap z = z := by
  simp only [IntKind.wrap, IntKind.bits, IntKind.signed]
  simp
  omega
theorem below_drewN' (w : World) (k : Nat) : Below w.heap.size w (w.drewN k) := ⟨rfl, rfl, rfl, Nat.le_refl _, fun _ _ => rfl⟩
set_option maxRecDepth 100000 in
set_option maxHeartbeats 3200000 in
theorem follows_none {lo B o : Nat} {cs : Array Value} {ty : TypeId} {w : World} {ve vs : Value} {xs : List EA} {c : Ct} (h : Cont lo B o cs ty w ve vs xs c) (n i : Nat) (hs : c.segs = []) :
    Calls Tryz.prog 87 #[.pointer (some ⟨B, o, none⟩), .agg (headC n i)] w fun e w' => e = .returned (.bool true) ∧ Below w.heap.size w w' := by
  have hr := h.rS
  rw [hs] at hr
  obtain ⟨A, cap, hv, _⟩ := row_slice hr
  have c2 := (h.blk.past (.cells (headC n i) 124)).cell _ _ (by rw [h.c2, hv])
  have HB := Lib.hid (alloc_below' w (.cells (headC n i) 124))
  clear h hr hv
  unfold headC at *
  simp only [List.length_nil] at c2
  go_enter Tryz.func87, Tryz.ntmps87
  go_wp2
  go_ret
  exact ⟨rfl, HB.out⟩
set_option maxRecDepth 100000 in
set_option maxHeartbeats 3200000 in
theorem follows_some {lo B o : Nat} {cs : Array Value} {ty : TypeId} {w : World} {ve vs : Value} {xs : List EA} {c : Ct} (h : Cont lo B o cs ty w ve vs xs c) (n i : Nat) (hn : n ≤ 4611686018427387904) (hi : i ≤ 4611686018427387904) (l : List Sg) (s : Sg) (hs : c.segs = l ++ [s]) (hl : l.length ≤ 2000000) (hx : xs.length ≤ 2000000) :
    Calls Tryz.prog 87 #[.pointer (some ⟨B, o, none⟩), .agg (headC n i)] w fun e w' => e = .returned (.bool (decide (n = s.num + 1 ∧ i = c.lg.last + 1))) ∧ Below w.heap.size w w' := by
  have hr := h.rS
  rw [hs] at hr
  have hlen : (l ++ [s]).length = l.length + 1 := by simp
  rw [hlen] at hr
  obtain ⟨q, cap, hv⟩ : ∃ q cap, vs = .slice (some ⟨q, 0, none⟩) (l.length + 1) cap := by
    rcases hr.2 with ⟨_, h0⟩ | ⟨q, cap, cur, hv, _⟩
    · omega
    · exact ⟨q, cap, hv⟩
  rw [hv] at hr
  obtain ⟨A, ecap, hve, _⟩ := row_slice h.rE
  have hbB := h.blk.past (.cells (headC n i) 124)
  have hlast : c.lg.last = c.lg.base + xs.length := by unfold Lg.last; rw [h.es]; simp
  have hb : c.lg.base + xs.length ≤ 4611686018427387904 := by have := h.ok.1.1; unfold MI at this; omega
  have hsn : s.num ≤ 99999999 := (h.ok.2 s (by rw [hs]; simp)).2.1
  have HB := Lib.hid (alloc_below' w (.cells (headC n i) 124))
  have HL := Lib.hid (show ∀ k, Calls Tryz.prog 24 #[.pointer (some ⟨B, o, none⟩)] ((w.alloc (.cells (headC n i) 124)).drewN k) fun e w'' => e = .returned (.int .i64 ((c.lg.last : Nat) : Int)) ∧ ∃ m, w'' = (w.alloc (.cells (headC n i) 124)).drewN m from fun k => by
    rw [hlast]
    exact (last_dr B o cs ty c.lg.base xs.length ecap A _ (hbB.drewN k) h.c0 (by rw [h.c1, hve]) hb).mono fun _ _ ⟨he, m, hw⟩ => ⟨he, k + m, by rw [hw, World.drewN_drewN]⟩)
  have HS := Lib.hid (show ∀ k, Calls Tryz.prog 38 #[.pointer (some ⟨B, o, none⟩)] ((w.alloc (.cells (headC n i) 124)).drewN k) fun e w'' => e = .returned (.pointer (some ⟨q, (l.length + 1 - 1) * 3, none⟩)) ∧ ∃ m, w'' = (w.alloc (.cells (headC n i) 124)).drewN m from fun k =>
    (lastSeg_dr B o q (l.length + 1) cap cs ty _ (hbB.drewN k) (by rw [h.c2, hv]) (by omega) (by omega)).mono fun _ _ ⟨he, m, hw⟩ => ⟨he, k + m, by rw [hw, World.drewN_drewN]⟩)
  have c2 := hbB.cell _ _ (by rw [h.c2, hv])
  have s0 := seg_cell (row_of hr (fun j hj => Below.heap_alloc w (.cells (headC n i) 124) j (row_lo hr j hj).2)) rfl 0 _ rfl
  rw [Nat.add_zero] at s0
  have hlm : c.lg.last ≤ 4611686018427387904 := by rw [hlast]; exact hb
  generalize c.lg.last = L at *
  generalize s.num = N at *
  obtain ⟨p, hp⟩ : ∃ p, (l.length + 1 - 1) * 3 = p := ⟨_, rfl⟩
  rw [hp] at HS s0
  clear h hr hv hve hbB hlast hp hs hb
  unfold headC at *
  have hz : ¬ ((l.length + 1 : Nat) : Int) = 0 := by omega
  obtain ⟨M, hM⟩ : ∃ M : Nat, l.length + 1 = M := ⟨_, rfl⟩
  rw [hM] at c2 hz
  clear hM hlen
  have e1 : IntKind.i64.wrap ((N : Int) + 1) = (N : Int) + 1 := wrap_in' _ (by omega) (by omega)
  have e2 : IntKind.i64.wrap ((L : Int) + 1) = (L : Int) + 1 := wrap_in' _ (by omega) (by omega)
  by_cases h1 : n = N + 1
  · have j1 : ((n : Int) == (N : Int) + 1) = true := by rw [beq_iff_eq]; omega
    by_cases h2 : i = L + 1
    · have j2 : ((i : Int) == (L : Int) + 1) = true := by rw [beq_iff_eq]; omega
      rw [decide_eq_true (⟨h1, h2⟩ : n = N + 1 ∧ i = L + 1)]
      clear h1 h2
      go_enter Tryz.func87, Tryz.ntmps87
      go_wp2_with fail
      go_quiet ((first | (go_at_call 38; exact HS.out _) | (go_at_call 24; exact HL.out _)))
      go_wp2
      go_ret
      exact ⟨rfl, HB.out.trans ((below_drewN' _ _).mono HB.out.size)⟩
    · have j2 : ((i : Int) == (L : Int) + 1) = false := by rw [beq_eq_false_iff_ne]; omega
      rw [decide_eq_false (fun h => h2 h.2 : ¬ (n = N + 1 ∧ i = L + 1))]
      clear h1 h2
      go_enter Tryz.func87, Tryz.ntmps87
      go_wp2_with fail
      go_quiet ((first | (go_at_call 38; exact HS.out _) | (go_at_call 24; exact HL.out _)))
      go_wp2
      go_ret
      exact ⟨rfl, HB.out.trans ((below_drewN' _ _).mono HB.out.size)⟩
  · have j1 : ((n : Int) == (N : Int) + 1) = false := by rw [beq_eq_false_iff_ne]; omega
    rw [decide_eq_false (fun h => h1 h.1 : ¬ (n = N + 1 ∧ i = L + 1))]
    clear h1
    go_enter Tryz.func87, Tryz.ntmps87
    go_wp2_with fail
    go_quiet ((first | (go_at_call 38; exact HS.out _) | (go_at_call 24; exact HL.out _)))
    go_wp2
    go_ret
    exact ⟨rfl, HB.out.trans ((below_drewN' _ _).mono HB.out.size)⟩
end Go.Proofs.YtgmpdifggaggdaaGreatDoor.Wl

namespace Go.Proofs.YtgmpdifggaggdaaGreatDoor.Wl
open Go.RowKit Go.Proofs.YtgmpdifggaggdaaGreatDoor.Fld
set_option linter.unusedVariables false

theorem lt_of_at' {cs : Array Value} {i : Nat} {v : Value} (h : cs[i]? = some v) : i < cs.size := by
  rcases Nat.lt_or_ge i cs.size with h' | h'
  · exact h'
  · rw [Array.getElem?_eq_none h'] at h; cases h
/-- what begin leaves: a segment more -/
def Begun (B o : Nat) (cs : Array Value) (ty : TypeId) (lo : Nat) (vs : Value) (M : Nat) (RW : List Value) (n i : Nat) (w : World) (e : Ending) (w' : World) : Prop :=
  e = .returned (.tuple #[]) ∧ ∃ v', Blk w' B (cs.setIfInBounds (o + 2) v') ty ∧ w'.ownsRow lo 69 3 v' (M + 1) (RW ++ [.int .i64 (n : Int), .int .i64 (i : Int), .int .i64 0]) ∧ Dk.Fr (B :: vs.ownBlock.toList) w w' ∧ (v'.ownBlock = vs.ownBlock ∨ ∃ j, v'.ownBlock = some j ∧ w.heap.size ≤ j)
set_option maxRecDepth 100000 in
set_option maxHeartbeats 6400000 in
theorem begin_more (B o : Nat) (cs : Array Value) (ty : TypeId) (lo M : Nat) (vs : Value) (RW : List Value) (n i : Nat) (w : World) (hB : Blk w B cs ty) (h2 : cs[o + 2]? = some vs) (ht2 : 69 ≠ ty) (hrow : w.ownsRow lo 69 3 vs M RW) (hM : 0 < M) (hM2 : M ≤ 2000000) (hlo : lo ≤ w.heap.size) :
    Calls Tryz.prog 88 #[.pointer (some ⟨B, o, none⟩), .agg (headC n i)] w (Begun B o cs ty lo vs M RW n i w) := by
  obtain ⟨VA0, vc0, hvs, _⟩ := row_slice hrow
  subst hvs
  unfold headC Begun
  have HH := Lib.hid (Blk.new w #[.int .i64 0, .int .i64 (n : Int), .int .i64 (i : Int), .int .i64 0, .int .i64 0, .int .i64 0, .slice none 0 0] 124)
  have HBw := Lib.hid (hB.past (.cells #[.int .i64 0, .int .i64 (n : Int), .int .i64 (i : Int), .int .i64 0, .int .i64 0, .int .i64 0, .slice none 0 0] 124))
  have HRW := Lib.hid (row_of hrow (fun j hj => Below.heap_alloc w (.cells #[.int .i64 0, .int .i64 (n : Int), .int .i64 (i : Int), .int .i64 0, .int .i64 0, .int .i64 0, .slice none 0 0] 124) j (row_lo hrow j hj).2))
  have HFW := Lib.hid ((Dk.Fr.refl (B :: (Value.slice VA0 M vc0).ownBlock.toList) w).alloc (.cells #[.int .i64 0, .int .i64 (n : Int), .int .i64 (i : Int), .int .i64 0, .int .i64 0, .int .i64 0, .slice none 0 0] 124))
  have hz : ¬ ((M : Nat) : Int) = 0 := by omega
  obtain ⟨wa, hwa⟩ : ∃ wa, w.alloc (.cells #[.int .i64 0, .int .i64 (n : Int), .int .i64 (i : Int), .int .i64 0, .int .i64 0, .int .i64 0, .slice none 0 0] 124) = wa := ⟨_, rfl⟩
  have HSZ := Lib.hid (show w.heap.size ≤ wa.heap.size by rw [← hwa]; simp)
  have HLW := Lib.hid (show lo ≤ wa.heap.size by have := HSZ.out; omega)
  rw [hwa] at HH HBw HRW HFW
  have c2 := HBw.out.cell _ _ h2
  clear hB hrow
  go_enter Tryz.func88, Tryz.ntmps88
  go_wp2_with fail
  have HK := Lib.hid (show ∀ ob, (wa.alloc ob).cell? ⟨B, o + 2, none⟩ = some (.slice VA0 M vc0) from fun ob => (HBw.out.past ob).cell _ _ h2)
  have HK1 := Lib.hid (show ∀ ob, (wa.alloc ob).cell? ⟨w.heap.size, 1, none⟩ = some (.int .i64 (n : Int)) from fun ob => (HH.out.past ob).cell 1 _ rfl)
  have HK2 := Lib.hid (show ∀ ob, (wa.alloc ob).cell? ⟨w.heap.size, 2, none⟩ = some (.int .i64 (i : Int)) from fun ob => (HH.out.past ob).cell 2 _ rfl)
  have HNW := Lib.hid (show ∀ (j : Nat) (u : Value), [Value.int .i64 (n : Int), Value.int .i64 (i : Int), Value.int .i64 0][j]? = some u → (wa.alloc (.cells #[.int .i64 (n : Int), .int .i64 (i : Int), .int .i64 0] 69)).cell? (Addr.add ⟨wa.heap.size, 0, none⟩ j) = some u from fun j u hj => by
    rw [add_at, World.cell?_alloc_mark]
    simpa using hj)
  have HRA := Lib.hid (row_of HRW.out (fun j hj => Below.heap_alloc wa (.cells #[.int .i64 (n : Int), .int .i64 (i : Int), .int .i64 0] 69) j (row_lo HRW.out j hj).2))
  have HLO := Lib.hid (show lo ≤ (wa.alloc (.cells #[.int .i64 (n : Int), .int .i64 (i : Int), .int .i64 0] 69)).heap.size by have := HLW.out; simp; omega)
  have HNB := Lib.hid (show (Value.slice VA0 M vc0).ownBlock ≠ some B from row_ne HRW.out HBw.out ht2)
  have HLB := Lib.hid (show B < wa.heap.size from HBw.out.lt)
  obtain ⟨inf, i1, i2, i3, i4⟩ := seg_info
  have s0 := HBw.out.cell _ _ h2
  have s1 := HH.out.cell 1 _ rfl
  have s2 := HH.out.cell 2 _ rfl
  have a0 := HK.out
  have a1 := HK1.out
  have a2 := HK2.out
  go_region_law ((first
    | (refine step_append_row rfl _ _ 57 rfl 69 inf _ 3 24 Tryz.underlying57 i1 i2 i3 i4 rfl (by omega) lo (.slice VA0 M vc0) M RW rfl HRA.out ⟨wa.heap.size, 0, none⟩ 1 1 [.int .i64 (n : Int), .int .i64 (i : Int), .int .i64 0] rfl rfl HNW.out (by simp [Value.oneCell']) (by unfold maxLen; omega) (by omega) HLO.out ?_; intro v' w3 hr3 hg3 hat3; obtain ⟨VA, vc, hvv, _⟩ := row_slice hr3; subst hvv; have HR3 := Lib.hid hr3; have HG3 := Lib.hid hg3; have HA3 := Lib.hid hat3; have hB3 := HBw.out.of ((hg3.block B (by have := HLB.out; simp; omega) (fun h => HNB.out h.symm)).trans (Below.heap_alloc _ _ _ HLB.out)); have HB3 := Lib.hid hB3; have fz := hB3.free (o + 2); have cz := hB3.cell _ _ h2; clear hr3 hg3 hat3 hB3)
    ))
  all_goals
    go_end0
    refine ⟨rfl, .slice VA (M + 1) vc, HB3.out.set (o + 2) _ (lt_of_at' h2), row_of HR3.out (fun j hj => Below.heap_setCell _ _ _ _ (fun h => row_ne HR3.out HB3.out ht2 (by rw [hj, h]))), ?_, ?_⟩
    · exact ((HFW.out.alloc _).drew.grown HG3.out (fun j hj => .inl (by rw [hj]; simp))).setCell _ (.inl (by simp)) _
    · rcases HA3.out with h | h
      · exact .inl h
      · refine .inr ⟨_, h, ?_⟩
        have := HSZ.out
        simp
        omega
def rest2 (cs : Array Value) (o i : Nat) : Array Value := (cs.setIfInBounds o (.int .i64 ((i - 1 : Nat) : Int))).setIfInBounds (o + 1) (.slice none 0 0)
theorem rest2_at (cs : Array Value) (o i j : Nat) (h : j ≠ o ∧ j ≠ o + 1) : (rest2 cs o i)[j]? = cs[j]? := by
  unfold rest2
  rw [Array.getElem?_setIfInBounds_ne (by omega), Array.getElem?_setIfInBounds_ne (by omega)]
set_option maxRecDepth 100000 in
set_option maxHeartbeats 6400000 in
theorem begin_first (B o : Nat) (cs : Array Value) (ty : TypeId) (lo M : Nat) (vs u0 u1 : Value) (RW : List Value) (n i : Nat) (w : World) (hB : Blk w B cs ty) (h0 : cs[o]? = some u0) (h1 : cs[o + 1]? = some u1) (h2o : cs[o + 2]? = some vs) (ht2 : 69 ≠ ty) (hrow : w.ownsRow lo 69 3 vs M RW) (hM : M = 0) (hlo : lo ≤ w.heap.size) (hi : 1 ≤ i) (hi2 : i ≤ 4611686018427387904) :
    Calls Tryz.prog 88 #[.pointer (some ⟨B, o, none⟩), .agg (headC n i)] w (Begun B o (rest2 cs o i) ty lo vs M RW n i w) := by
  obtain ⟨VA0, vc0, hvs, _⟩ := row_slice hrow
  subst hvs
  unfold headC Begun
  have HH := Lib.hid (Blk.new w #[.int .i64 0, .int .i64 (n : Int), .int .i64 (i : Int), .int .i64 0, .int .i64 0, .int .i64 0, .slice none 0 0] 124)
  have HBa := Lib.hid (hB.past (.cells #[.int .i64 0, .int .i64 (n : Int), .int .i64 (i : Int), .int .i64 0, .int .i64 0, .int .i64 0, .slice none 0 0] 124))
  have HRa := Lib.hid (row_of hrow (fun j hj => Below.heap_alloc w (.cells #[.int .i64 0, .int .i64 (n : Int), .int .i64 (i : Int), .int .i64 0, .int .i64 0, .int .i64 0, .slice none 0 0] 124) j (row_lo hrow j hj).2))
  have HFa := Lib.hid ((Dk.Fr.refl (B :: (Value.slice VA0 M vc0).ownBlock.toList) w).alloc (.cells #[.int .i64 0, .int .i64 (n : Int), .int .i64 (i : Int), .int .i64 0, .int .i64 0, .int .i64 0, .slice none 0 0] 124))
  have h2 : (rest2 cs o i)[o + 2]? = some (.slice VA0 M vc0) := by rw [rest2_at _ _ _ _ (by omega)]; exact h2o
  obtain ⟨wa, hwa⟩ : ∃ wa, w.alloc (.cells #[.int .i64 0, .int .i64 (n : Int), .int .i64 (i : Int), .int .i64 0, .int .i64 0, .int .i64 0, .slice none 0 0] 124) = wa := ⟨_, rfl⟩
  have HSZa := Lib.hid (show w.heap.size ≤ wa.heap.size by rw [← hwa]; simp)
  have HWB := Lib.hid (show w.heap.size ≠ B by have := hB.lt; omega)
  rw [hwa] at HH HBa HRa HFa
  have c2 := HBa.out.cell _ _ h2o
  have k2 := HH.out.cell 2 _ rfl
  have HRS := Lib.hid (show ∀ wq : World, wq.heap = wa.heap → wq.os = wa.os → wq.tape = wa.tape → wq.output = wa.output → Calls Tryz.prog 90 #[.pointer (some ⟨B, o, none⟩), .int .i64 (i : Int)] wq fun e w' => e = .returned (.tuple #[]) ∧ Blk w' B (rest2 cs o i) ty ∧ Dk.Fr [B] wa w' from fun wq q1 q2 q3 q4 => (restart_any B o cs ty i wq (by unfold Blk; rw [q1]; exact HBa.out) _ _ h0 h1 hi hi2).mono fun _ _ ⟨he, hb, hf⟩ => ⟨he, hb, ⟨hf.os.trans q2, hf.tape.trans q3, hf.output.trans q4, by rw [← q1]; exact hf.size, fun k hk hn => by rw [hf.block k (by rw [q1]; exact hk) hn, q1]⟩⟩)
  clear hB hrow h0 h1 h2o
  subst hM
  have hM2 : 0 ≤ 2000000 := by omega
  go_enter Tryz.func88, Tryz.ntmps88
  go_wp2_with fail
  go_region_with ((go_at_call 90; refine (HRS.out _ (by exact rfl) (by exact rfl) (by exact rfl) (by exact rfl)).mono ?_; rintro e w1 ⟨rfl, hb1, hf1⟩; have HBw := Lib.hid hb1; have HF1 := Lib.hid hf1; clear hb1 hf1))
  have HH1 := Lib.hid (HH.out.of (HF1.out.block w.heap.size HH.out.lt (by simpa using HWB.out)))
  have HRW := Lib.hid (row_of HRa.out (fun j hj => HF1.out.block j (row_lo HRa.out j hj).2 (by have := row_ne HRa.out HBa.out ht2; intro hm; simp at hm; subst hm; exact this hj)))
  have HFW := Lib.hid (HFa.out.same (HF1.out.mono (by simp)))
  have HSZ := Lib.hid (show w.heap.size ≤ w1.heap.size from Nat.le_trans HSZa.out HF1.out.size)
  have HLW := Lib.hid (show lo ≤ w1.heap.size by have := HSZ.out; omega)
  clear c2 k2
  go_wp2_with fail
  have HK := Lib.hid (show ∀ ob, (w1.alloc ob).cell? ⟨B, o + 2, none⟩ = some (.slice VA0 0 vc0) from fun ob => (HBw.out.past ob).cell _ _ h2)
  have HK1 := Lib.hid (show ∀ ob, (w1.alloc ob).cell? ⟨w.heap.size, 1, none⟩ = some (.int .i64 (n : Int)) from fun ob => (HH1.out.past ob).cell 1 _ rfl)
  have HK2 := Lib.hid (show ∀ ob, (w1.alloc ob).cell? ⟨w.heap.size, 2, none⟩ = some (.int .i64 (i : Int)) from fun ob => (HH1.out.past ob).cell 2 _ rfl)
  have HNW := Lib.hid (show ∀ (j : Nat) (u : Value), [Value.int .i64 (n : Int), Value.int .i64 (i : Int), Value.int .i64 0][j]? = some u → (w1.alloc (.cells #[.int .i64 (n : Int), .int .i64 (i : Int), .int .i64 0] 69)).cell? (Addr.add ⟨w1.heap.size, 0, none⟩ j) = some u from fun j u hj => by
    rw [add_at, World.cell?_alloc_mark]
    simpa using hj)
  have HRA := Lib.hid (row_of HRW.out (fun j hj => Below.heap_alloc w1 (.cells #[.int .i64 (n : Int), .int .i64 (i : Int), .int .i64 0] 69) j (row_lo HRW.out j hj).2))
  have HLO := Lib.hid (show lo ≤ (w1.alloc (.cells #[.int .i64 (n : Int), .int .i64 (i : Int), .int .i64 0] 69)).heap.size by have := HLW.out; simp; omega)
  have HNB := Lib.hid (show (Value.slice VA0 0 vc0).ownBlock ≠ some B from row_ne HRW.out HBw.out ht2)
  have HLB := Lib.hid (show B < w1.heap.size from HBw.out.lt)
  obtain ⟨inf, i1, i2, i3, i4⟩ := seg_info
  have s0 := HBw.out.cell _ _ h2
  have s1 := HH1.out.cell 1 _ rfl
  have s2 := HH1.out.cell 2 _ rfl
  have a0 := HK.out
  have a1 := HK1.out
  have a2 := HK2.out
  go_region_law ((first
    | (refine step_append_row rfl _ _ 57 rfl 69 inf _ 3 24 Tryz.underlying57 i1 i2 i3 i4 rfl (by omega) lo (.slice VA0 0 vc0) 0 RW rfl HRA.out ⟨w1.heap.size, 0, none⟩ 1 1 [.int .i64 (n : Int), .int .i64 (i : Int), .int .i64 0] rfl rfl HNW.out (by simp [Value.oneCell']) (by unfold maxLen; omega) (by omega) HLO.out ?_; intro v' w3 hr3 hg3 hat3; obtain ⟨VA, vc, hvv, _⟩ := row_slice hr3; subst hvv; have HR3 := Lib.hid hr3; have HG3 := Lib.hid hg3; have HA3 := Lib.hid hat3; have hB3 := HBw.out.of ((hg3.block B (by have := HLB.out; simp; omega) (fun h => HNB.out h.symm)).trans (Below.heap_alloc _ _ _ HLB.out)); have HB3 := Lib.hid hB3; have fz := hB3.free (o + 2); have cz := hB3.cell _ _ h2; clear hr3 hg3 hat3 hB3)
    ))
  all_goals
    go_end0
    refine ⟨rfl, .slice VA (0 + 1) vc, HB3.out.set (o + 2) _ (lt_of_at' h2), row_of HR3.out (fun j hj => Below.heap_setCell _ _ _ _ (fun h => row_ne HR3.out HB3.out ht2 (by rw [hj, h]))), ?_, ?_⟩
    · exact ((HFW.out.alloc _).drew.grown HG3.out (fun j hj => .inl (by rw [hj]; simp))).setCell _ (.inl (by simp)) _
    · rcases HA3.out with h | h
      · exact .inl h
      · refine .inr ⟨_, h, ?_⟩
        have := HSZ.out
        simp
        omega
end Go.Proofs.YtgmpdifggaggdaaGreatDoor.Wl

namespace Go.Proofs.YtgmpdifggaggdaaGreatDoor.Wl
open Go.RowKit Go.Proofs.YtgmpdifggaggdaaGreatDoor.Fld
set_option linter.unusedVariables false

theorem lt_of_at {cs : Array Value} {i : Nat} {v : Value} (h : cs[i]? = some v) : i < cs.size := by
  rcases Nat.lt_or_ge i cs.size with h' | h'
  · exact h'
  · rw [Array.getElem?_eq_none h'] at h; cases h
set_option maxRecDepth 100000 in
set_option maxHeartbeats 3200000 in
theorem cut_low (B o : Nat) (cs : Array Value) (ty : TypeId) (base i : Nat) (u1 : Value) (w : World) (hB : Blk w B cs ty) (h0 : cs[o]? = some (.int .i64 (base : Int))) (h1 : cs[o + 1]? = some u1) (hi : 1 ≤ i) (hi2 : i ≤ 4611686018427387904) (hc : i ≤ base) :
    Calls Tryz.prog 89 #[.pointer (some ⟨B, o, none⟩), .int .i64 (i : Int)] w fun e w' => e = .returned (.tuple #[]) ∧ Blk w' B ((cs.setIfInBounds o (.int .i64 ((i - 1 : Nat) : Int))).setIfInBounds (o + 1) (.slice none 0 0)) ty ∧ Dk.Fr [B] w w' := by
  have HR := Lib.hid (restart_any B o cs ty i w hB _ _ h0 h1 hi hi2)
  have c0 := hB.cell _ _ h0
  have j1 : (i : Int) ≤ (base : Int) := by omega
  clear hB h0 h1
  go_enter Tryz.func89, Tryz.ntmps89
  go_wp2_with (go_at_call 90; refine HR.out.mono ?_; rintro e w' ⟨rfl, h⟩; have HH := Lib.hid h; clear h)
  go_end0
  exact ⟨rfl, HH.out⟩
set_option maxRecDepth 100000 in
set_option maxHeartbeats 3200000 in
theorem cut_high (B o : Nat) (cs : Array Value) (ty : TypeId) (base i n cap : Nat) (A : Option Addr) (w : World) (hB : Blk w B cs ty) (h0 : cs[o]? = some (.int .i64 (base : Int))) (h1 : cs[o + 1]? = some (.slice A n cap)) (hb : base + n ≤ 4611686018427387904) (hi2 : i ≤ 4611686018427387904) (hc : base + n < i) :
    Calls Tryz.prog 89 #[.pointer (some ⟨B, o, none⟩), .int .i64 (i : Int)] w fun e w' => e = .returned (.tuple #[]) ∧ Still w w' := by
  have HL := Lib.hid (last_any B o cs ty base n cap A w hB h0 h1 hb)
  have c0 := hB.cell _ _ h0
  have j1 : ¬ (i : Int) ≤ (base : Int) := by omega
  have j2 : ¬ (i : Int) ≤ ((base + n : Nat) : Int) := by omega
  clear hB h0 h1
  go_enter Tryz.func89, Tryz.ntmps89
  go_wp2_with (go_at_call 24; refine HL.out.mono ?_; rintro e w' ⟨rfl, h⟩; have HH := Lib.hid h; clear h)
  go_end0
  exact ⟨rfl, HH.out⟩
end Go.Proofs.YtgmpdifggaggdaaGreatDoor.Wl
