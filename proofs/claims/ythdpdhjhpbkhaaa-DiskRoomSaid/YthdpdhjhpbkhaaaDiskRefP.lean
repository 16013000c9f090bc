/-
  The document's own disk: a file is put in its place. Conditions: it lies in memory as it was made (Rf).
-/
import Derived.Test.YthdpdhjhpbkhaaaDiskRefO
import Derived.BigQuiet
namespace Go.Proofs.Ythdpdhjhpbkhaaa.Dk
open Go.RowKit Go.Proofs.Ythdpdhjhpbkhaaa.Fld

def Still (w w' : World) : Prop := w'.heap = w.heap ∧ w'.os = w.os ∧ w'.tape = w.tape ∧ w'.output = w.output
theorem Still.refl (w : World) : Still w w := ⟨rfl, rfl, rfl, rfl⟩
theorem Still.trans {a b c : World} (h : Still a b) (k : Still b c) : Still a c := ⟨k.1.trans h.1, k.2.1.trans h.2.1, k.2.2.1.trans h.2.2.1, k.2.2.2.trans h.2.2.2⟩
theorem Still.drew {a b : World} (h : Still a b) : Still a b.drew := h
theorem Still.drewN {a b : World} (h : Still a b) (n : Nat) : Still a (b.drewN n) := by
  exact h
theorem Still.cell {w w' : World} (h : Still w w') (a : Addr) : w'.cell? a = w.cell? a := by
  unfold World.cell?
  rw [h.1]
theorem less_before : ∀ a b : Nm, Op.bytesLess a b = bytesBefore a b
  | [], [] => rfl
  | _ :: _, [] => rfl
  | [], _ :: _ => rfl
  | a :: x, b :: y => by simp only [Op.bytesLess, bytesBefore, less_before x y]
/-- where a file belongs -/
theorem ins_at (e : Ent) : ∀ (m : List Ent) (k : Nat), k ≤ m.length → (∀ j (hj : j < m.length), j < k → bytesBefore m[j].nm e.nm = true) → (∀ hk : k < m.length, bytesBefore m[k].nm e.nm = false) → (∀ a ∈ m, a.nm ≠ e.nm) → ins Ent.nm e m = m.take k ++ (e :: m.drop k)
  | [], k, hk, _, _, _ => by simp at hk; subst hk; rfl
  | y :: r, 0, _, _, h2, h3 => by
    have h := h2 (by simp)
    simp only [List.getElem_cons_zero] at h
    have hb : bytesBefore e.nm y.nm = true := by
      rcases WideAt.bytes_total e.nm y.nm (fun h => h3 y (by simp) h.symm) with h4 | h4
      · exact h4
      · rw [h] at h4; cases h4
    rw [ins, if_pos hb]
    rfl
  | y :: r, k + 1, hk, h1, h2, h3 => by
    have h := h1 0 (by simp) (by omega)
    simp only [List.getElem_cons_zero] at h
    rw [ins, if_neg (by rw [before_asym h]; simp)]
    rw [ins_at e r k (by simpa using hk) (fun j hj hjk => by have := h1 (j + 1) (by simp; omega) (by omega); simpa using this) (fun hk2 => by have := h2 (by simp; omega); simpa using this) (fun a ha => h3 a (by simp [ha]))]
    rfl
def PutR (W : World) (m : List Ent) (x : Nm) (i : Value) (wr : World) : Prop := ∃ k : Nat, k ≤ m.length ∧ i = .int .i64 (k : Int) ∧ (∀ j (hj : j < m.length), j < k → bytesBefore m[j].nm x = true) ∧ Still W wr
theorem ent_row (W : World) (e : Ent) {EA : Option Addr} {en ecap : Nat} (hv : e.v = .slice EA en ecap) : RdF3 (W.alloc (.cells #[.string ⟨e.nm.toArray⟩, .slice EA en ecap, .int .i64 (e.s : Int)] 75)) ⟨W.heap.size, 0, none⟩ [e] := by
  intro j u hu
  have hN := heap_alloc_new W (.cells #[.string ⟨e.nm.toArray⟩, .slice EA en ecap, .int .i64 (e.s : Int)] 75)
  have ea : (⟨W.heap.size, 0, none⟩ : Addr).add j = ⟨W.heap.size, j, none⟩ := by simp [Addr.add]; omega
  rw [ea, cell_of_row _ _ j _ _ (0, 0) hN, ← hu]
  simp only [rowOf, List.flatMap_cons, List.flatMap_nil, List.append_nil, cells3, hv]
  rw [← Array.getElem?_toList]
theorem ent_next {w1 : World} {base n : Nat} {v : Value} {xs : List Value} (h : w1.ownsRow base 75 3 v n xs) (e : Ent) {EA : Option Addr} {en ecap : Nat} (_ : e.v = .slice EA en ecap) : (w1.alloc (.cells #[.string ⟨e.nm.toArray⟩, .slice EA en ecap, .int .i64 (e.s : Int)] 75)).ownsRow base 75 3 v n xs := by
  refine ⟨h.1, ?_⟩
  rcases h.2 with h | ⟨q, cap, cur, hv, hg, hq, r⟩
  · exact .inl h
  · exact .inr ⟨q, cap, cur, hv, hg, (Below.heap_alloc _ _ _ (Array.getElem?_eq_some_iff.1 hq).1).trans hq, r⟩
theorem turned_end0 {w w2 : World} {r : Nat} {room fl al : Int} {down : Bool} {A A' : Option Addr} {n n' cap cap' : Nat} {m : List Ent} (hf : Fr [] w w2) (hrl : r < w.heap.size) (hD : Dsr w2 r room A n cap fl al down)
    (hrow : w2.ownsRow 0 75 3 (.slice A' n' cap') n' (rowOf m)) (hb : ∀ i, (Value.slice A' n' cap').ownBlock = some i → w.heap.size ≤ i ∧ i < w2.heap.size) (hn : m.length = n') :
    Turned w r room fl al down m (w2.setCell ⟨r, 1, none⟩ (.slice A' n' cap')) := by
  refine ⟨A', n', cap', hD.set1 A' n' cap', ?_, fun i hi => ⟨(hb i hi).1, by have := (hb i hi).2; simpa [World.setCell] using this⟩, (hf.mono (by simp)).setCell _ (.inl (by simp)) _⟩
  rw [hn]
  exact row_of_block hrow fun i hi => Below.heap_setCell _ _ _ _ (by have := (hb i hi).1; simp; omega)
/-- what the end of put needs, of any world that is as the one behind the box -/
theorem put_facts {w W wq : World} {r q cap k : Nat} {room fl al : Int} {down : Bool} {m : List Ent} {cs : Array Value} (hst : Still W wq) (hb : Below w.heap.size w W) (hk : k ≤ m.length)
    (hD : Dsr W r room (some ⟨q, 0, none⟩) m.length cap fl al down) (hN : W.heap[w.heap.size]? = some (.cells cs 75 (0, 0))) (hr : ∀ j, j ≤ m.length → RdF3 W ⟨q, j * 3, none⟩ (m.drop j)) :
    Dsr wq r room (some ⟨q, 0, none⟩) m.length cap fl al down ∧ wq.heap[w.heap.size]? = some (.cells cs 75 (0, 0)) ∧ RdF3 (wq.alloc (.cells #[] 75)) ⟨q, 0, none⟩ (m.take k) ∧
    RdF3 wq ⟨q, k * 3, none⟩ (m.drop k) ∧ Fr [] w wq := by
  have hrd : ∀ j, j ≤ m.length → RdF3 wq ⟨q, j * 3, none⟩ (m.drop j) := fun j hj => (hr j hj).of_block (by rw [hst.1])
  refine ⟨hD.of_block (by rw [hst.1]), (by rw [hst.1]; exact hN), ?_, hrd k hk, ⟨hst.2.1.trans hb.os, hst.2.2.1.trans hb.tape, hst.2.2.2.trans hb.output, by rw [hst.1]; exact hb.size, fun i hi _ => by rw [hst.1]; exact hb.block i hi⟩⟩
  intro j u hu
  refine cell_past ?_ _
  have := hrd 0 (by omega) j u
  simp only [Nat.zero_mul, List.drop_zero] at this
  refine this ?_
  have e : rowOf m = rowOf (m.take k) ++ rowOf (m.drop k) := by rw [← rowOf_append, List.take_append_drop]
  rw [e, List.getElem?_append_left]
  · exact hu
  · exact (List.getElem?_eq_some_iff.1 hu).1
set_option maxRecDepth 100000 in
set_option maxHeartbeats 3200000 in
theorem put_some (r q cap : Nat) (room fl al : Int) (down : Bool) (m : List Ent) (e : Ent) (w : World) (h : Dsr w r room (some ⟨q, 0, none⟩) m.length cap fl al down) (hq : q < w.heap.size) (hc : m.length ≤ cap) (hm : m.length ≤ 1000000) (hfl : Flat m) (he : Flat [e]) (hne : ∀ a ∈ m, a.nm ≠ e.nm)
    (hr : ∀ j, j ≤ m.length → RdF3 w ⟨q, j * 3, none⟩ (m.drop j)) :
    Calls Try.prog 47 #[.pointer (some ⟨r, 0, none⟩), .agg #[.string ⟨e.nm.toArray⟩, e.v, .int .i64 (e.s : Int)]] w fun en w' => en = .returned (.tuple #[]) ∧ Turned w r room fl al down (ins Ent.nm e m) w' := by
  obtain ⟨EA, en, ecap, hev⟩ := he e (by simp)
  have hname : ∀ k (hk : k < m.length), w.cell? ⟨q, k * 3, none⟩ = some (.string ⟨m[k].nm.toArray⟩) := by
    intro k hk
    have := hr k (by omega) 0 (.string ⟨m[k].nm.toArray⟩) (by rw [List.drop_eq_getElem_cons hk]; rfl)
    simpa [Addr.add] using this
  rw [hev]
  have HEV := Lib.hid hev
  obtain ⟨W, hW⟩ : ∃ W, W = w.alloc (.cells #[.string ⟨e.nm.toArray⟩, .slice EA en ecap, .int .i64 (e.s : Int)] 75) := ⟨_, rfl⟩
  have hbW : Below w.heap.size w W := by rw [hW]; exact (Below.refl _ _).alloc (Nat.le_refl _) _
  have HD := Lib.hid (h.of_block (hbW.block r h.lt))
  have hN : W.heap[w.heap.size]? = some (.cells #[.string ⟨e.nm.toArray⟩, .slice EA en ecap, .int .i64 (e.s : Int)] 75 (0, 0)) := by rw [hW]; exact heap_alloc_new w _
  have HN := Lib.hid hN
  have HNM := Lib.hid (fun k hk => (World.cell?_of_block (w := w) (hbW.block q hq)).trans (hname k hk))
  have HRF := Lib.hid (fun j hj => (hr j hj).of_block (w' := W) (hbW.block q hq))
  have HBW := Lib.hid hbW
  have hrl := h.lt
  subst hW
  clear h hr hname hbW hN hev
  go_enter Try.func47, Try.ntmps47
  go_wp2
  go_loopw [4] (fun i wr => PutR (w.alloc (.cells #[.string ⟨e.nm.toArray⟩, .slice EA en ecap, .int .i64 (e.s : Int)] 75)) m e.nm i wr) (fun i _ => m.length - (intOf i).toNat)
  case atStart => exact ⟨0, Nat.zero_le _, rfl, fun j hj h => by omega, Still.refl _⟩
  case round =>
    obtain ⟨k, hk, rfl, hall, hst⟩ := hrel
    have hDr := HD.out.of_block (w' := wr) (by rw [hst.1])
    have hNr := (show wr.heap[w.heap.size]? = _ from by rw [hst.1]).trans HN.out
    have k0 := cell_of_row wr w.heap.size 0 _ _ (0, 0) hNr
    have k1 := cell_of_row wr w.heap.size 1 _ _ (0, 0) hNr
    have k2 := cell_of_row wr w.heap.size 2 _ _ (0, 0) hNr
    obtain ⟨c0, c1, c2, c3, c4⟩ := hDr.cells
    have HA := Lib.hid hall
    have HST := Lib.hid hst
    clear hall
    have hcase : (k < m.length ∧ cap ≠ k ∧ ∃ x, wr.cell? ⟨q, k * 3, none⟩ = some (.string ⟨x.toArray⟩) ∧ Op.bytesLess x e.nm = true ∧ ∀ j (hj : j < m.length), j < k + 1 → bytesBefore m[j].nm e.nm = true) ∨
        ((∀ hk : k < m.length, bytesBefore m[k].nm e.nm = false) ∧ ((k < m.length ∧ cap ≠ k ∧ ∃ x, wr.cell? ⟨q, k * 3, none⟩ = some (.string ⟨x.toArray⟩) ∧ Op.bytesLess x e.nm = false) ∨ (k = m.length ∧ cap = k) ∨ (k = m.length ∧ cap ≠ k))) := by
      by_cases hlt : k < m.length
      · have hnm : wr.cell? ⟨q, k * 3, none⟩ = some (.string ⟨m[k].nm.toArray⟩) := (Still.cell hst _).trans (HNM.out k hlt)
        cases hb : bytesBefore m[k].nm e.nm with
        | true =>
          refine .inl ⟨hlt, by omega, m[k].nm, hnm, by rw [less_before]; exact hb, fun j hj h => ?_⟩
          rcases Nat.lt_or_eq_of_le (Nat.le_of_lt_succ h) with h1 | h1
          · exact HA.out j hj h1
          · subst h1; exact hb
        | false => exact .inr ⟨fun _ => hb, .inl ⟨hlt, by omega, m[k].nm, hnm, by rw [less_before]; exact hb⟩⟩
      · have hkl : k = m.length := by omega
        by_cases hck : cap = k
        · exact .inr ⟨fun h => absurd h hlt, .inr (.inl ⟨hkl, hck⟩)⟩
        · exact .inr ⟨fun h => absurd h hlt, .inr (.inr ⟨hkl, hck⟩)⟩
    rcases hcase with ⟨hlt, hck, x, hnm, hls, hall2⟩ | ⟨hstop, hcase⟩
    · have HA2 := Lib.hid hall2
      have d1 : decide ((k : Int) < (m.length : Int)) = true := by simp; omega
      clear hst hDr hall2
      generalize e.nm = y at *
      go_wp2_with fail
      go_quiet (fail)
      go_wp2
      go_roundw
      case rel => exact ⟨k + 1, by omega, by go_num, HA2.out, Still.drewN HST.out _⟩
      case measure => simp [intOf]; omega
    · have HINS := Lib.hid (ins_at e m k hk HA.out hstop hne)
      have d0 : (k < m.length → decide ((k : Int) < (m.length : Int)) = true) ∧ (¬ k < m.length → decide ((k : Int) < (m.length : Int)) = false) := ⟨fun h => by simp; omega, fun h => by simp; omega⟩
      have HF1 := Lib.hid (show Flat (m.take k) from fun e he => hfl e (List.mem_of_mem_take he))
      have HF2 := Lib.hid (show Flat (m.drop k) from fun e he => hfl e (List.mem_of_mem_drop he))
      have HFE := Lib.hid he
      have HL1 := Lib.hid (show (m.take k).length = k by rw [List.length_take]; omega)
      have HL2 := Lib.hid (show (m.drop k).length = m.length - k by rw [List.length_drop])
      clear hst hDr hNr hstop
      rcases hcase with ⟨hlt, hck, x, hnm, hls⟩ | ⟨hkl, hck⟩ | ⟨hkl, hck⟩
      · have d1 := d0.1 hlt
        clear d0
        go_wp2_with fail
        go_quiet (fail)
        have hstq := Still.drewN HST.out nq
        generalize wr.drewN nq = wq at *
        obtain ⟨hDq, hNq, hr1, hr3, hfq⟩ := put_facts (k := k) hstq HBW.out hk HD.out HN.out HRF.out
        have hlw : w.heap.size < wq.heap.size := (Array.getElem?_eq_some_iff.1 hNq).1
        have HDQ := Lib.hid hDq
        have HNQ := Lib.hid hNq
        have HR1 := Lib.hid hr1
        have HFQ := Lib.hid hfq
        have HO := Lib.hid (row_made wq)
        have k1q := hDq.cells.2.1
        have p1 := fun o => cell_past k1q o
        clear hstq hDq hNq hr1 hfq c0 c1 c2 c3 c4 k0 k1 k2 k1q
        generalize m.take k = m1 at *
        generalize m.drop k = m2 at *
        go_wp2_with (first | (at_builtin; have _ := HROW2; refine wpList_append_files rfl _ _ rfl wq.heap.size _ (k + 1) (m1 ++ [e]) rfl HROW2.out ⟨q, k * 3, none⟩ _ _ m2 rfl HL2.out HRR3.out HF2.out (by omega) (by omega) ?_; intro v3 w3 hrow3 hg3 _; obtain ⟨A3, c3', hv3, hbl3⟩ := row_form hrow3; subst hv3; have hD3 := HD2.out.of_block (hg3.block r (by omega) (by intro e; have := HB2.out r e.symm; omega)); have z1 := hD3.cells.2.1; have z2 := hD3.free 1; have HD3 := Lib.hid hD3; have HROW3 := Lib.hid hrow3; have HB3 := Lib.hid hbl3; have HF3 := Lib.hid (HFR2.out.grown hg3 (fun i hi => .inr (by have := HB2.out i hi; omega))); clear hrow3 hg3 hbl3 hD3 HROW2) | (at_builtin; have _ := HROW1; refine wpList_append_files rfl _ _ rfl wq.heap.size _ k m1 rfl HROW1.out ⟨w1.heap.size, 0, none⟩ 1 1 [e] rfl rfl HRE.out HFE.out (by omega) (by simp; omega) ?_; intro v2 w2 hrow2 hg2 _; obtain ⟨A2, c2', hv2, hbl2⟩ := row_form hrow2; subst hv2; have hbk2 : ∀ i, i < wq.heap.size → w2.heap[i]? = w1.heap[i]? := (fun i hi => (hg2.block i (by simp; omega) (by intro e; have := HB1.out i e.symm; omega)).trans (Below.heap_alloc _ _ _ (by omega))); have hD2 := HD1.out.of_block (hbk2 r (by omega)); have y1 := hD2.cells.2.1; have HD2 := Lib.hid hD2; have HROW2 := Lib.hid hrow2; have HB2 := Lib.hid (fun i hi => (hbl2 i hi).1); have hs2 := hg2.size; simp at hs2; have HFR2 := Lib.hid ((HFR1.out.alloc _).grown hg2 (fun i hi => .inr (by have := HB1.out i hi; omega))); have HRR3 := Lib.hid (HRR.out.of_block (hbk2 q (by omega))); clear hrow2 hg2 hbl2 hD2 hbk2 HROW1) | (at_builtin; (refine wpList_append_files rfl _ _ rfl wq.heap.size (.slice (some ⟨wq.heap.size, 0, none⟩) 0 0) 0 [] rfl HO.out ⟨q, 0, none⟩ k cap m1 rfl HL1.out HR1.out HF1.out (by omega) (by simp) ?_; intro v1 w1 hrow1 hg1 _; rw [List.nil_append, Nat.zero_add] at hrow1; have hbk1 : ∀ i, i < wq.heap.size → w1.heap[i]? = wq.heap[i]? := (fun i hi => (hg1.block i (by simp; omega) (by simp [Value.ownBlock]; omega)).trans (Below.heap_alloc _ _ _ hi)); have hs1 := hg1.size; simp at hs1; have hD1 := HDQ.out.of_block (hbk1 r (by omega)); have x1 := hD1.cells.2.1; have xp := fun o => cell_past x1 o; have hN1 := (hbk1 w.heap.size hlw).trans HNQ.out; have b0 := cell_of_row w1 w.heap.size 0 _ _ (0, 0) hN1; have b1 := cell_of_row w1 w.heap.size 1 _ _ (0, 0) hN1; have b2 := cell_of_row w1 w.heap.size 2 _ _ (0, 0) hN1; have HD1 := Lib.hid hD1; obtain ⟨A1, c1', hv1, hbl1⟩ := row_form hrow1; subst hv1; have HROW1 := Lib.hid (ent_next hrow1 e HEV.out); have HRE := Lib.hid (ent_row w1 e HEV.out); have HB1 := Lib.hid (fun i hi => (hbl1 i hi).1); have HFR1 := Lib.hid ((HFQ.out.alloc _).grown hg1 (fun i hi => by cases hi; exact .inr (show w.heap.size ≤ wq.heap.size by omega))); have HRR := Lib.hid (hr3.of_block (hbk1 q (by omega))); clear hrow1 hg1 hbl1 hD1 hN1 hbk1 HO)))
        go_end0
        refine ⟨rfl, ?_⟩
        rw [HINS.out, show m1 ++ e :: m2 = m1 ++ [e] ++ m2 by simp]
        exact turned_end0 HF3.out hrl HD3.out (row_zero HROW3.out) (fun i hi => ⟨by have := (HB3.out i hi).1; omega, (HB3.out i hi).2⟩) (by rw [List.length_append, List.length_append, HL1.out, HL2.out]; rfl)
      · have d1 := d0.2 (by omega)
        have d2 : decide (k < m.length) = false := decide_eq_false (by omega)
        have HDN := Lib.hid (show m.drop k = [] from List.drop_eq_nil_of_le (by omega))
        clear d0 hkl
        go_wp2_with fail
        go_quiet (fail)
        have hstq := Still.drewN HST.out nq
        generalize wr.drewN nq = wq at *
        obtain ⟨hDq, hNq, hr1, hr3, hfq⟩ := put_facts (k := k) hstq HBW.out hk HD.out HN.out HRF.out
        replace hr3 : RdF3 wq ⟨q, 0, none⟩ (m.drop k) := by rw [HDN.out]; intro j u hu; simp [rowOf] at hu
        have hlw : w.heap.size < wq.heap.size := (Array.getElem?_eq_some_iff.1 hNq).1
        have HDQ := Lib.hid hDq
        have HNQ := Lib.hid hNq
        have HR1 := Lib.hid hr1
        have HFQ := Lib.hid hfq
        have HO := Lib.hid (row_made wq)
        have k1q := hDq.cells.2.1
        have p1 := fun o => cell_past k1q o
        clear hstq hDq hNq hr1 hfq c0 c1 c2 c3 c4 k0 k1 k2 k1q
        generalize m.take k = m1 at *
        generalize m.drop k = m2 at *
        go_wp2_with (first | (at_builtin; have _ := HROW2; refine wpList_append_files rfl _ _ rfl wq.heap.size _ (k + 1) (m1 ++ [e]) rfl HROW2.out ⟨q, 0, none⟩ _ _ m2 rfl HL2.out HRR3.out HF2.out (by omega) (by omega) ?_; intro v3 w3 hrow3 hg3 _; obtain ⟨A3, c3', hv3, hbl3⟩ := row_form hrow3; subst hv3; have hD3 := HD2.out.of_block (hg3.block r (by omega) (by intro e; have := HB2.out r e.symm; omega)); have z1 := hD3.cells.2.1; have z2 := hD3.free 1; have HD3 := Lib.hid hD3; have HROW3 := Lib.hid hrow3; have HB3 := Lib.hid hbl3; have HF3 := Lib.hid (HFR2.out.grown hg3 (fun i hi => .inr (by have := HB2.out i hi; omega))); clear hrow3 hg3 hbl3 hD3 HROW2) | (at_builtin; have _ := HROW1; refine wpList_append_files rfl _ _ rfl wq.heap.size _ k m1 rfl HROW1.out ⟨w1.heap.size, 0, none⟩ 1 1 [e] rfl rfl HRE.out HFE.out (by omega) (by simp; omega) ?_; intro v2 w2 hrow2 hg2 _; obtain ⟨A2, c2', hv2, hbl2⟩ := row_form hrow2; subst hv2; have hbk2 : ∀ i, i < wq.heap.size → w2.heap[i]? = w1.heap[i]? := (fun i hi => (hg2.block i (by simp; omega) (by intro e; have := HB1.out i e.symm; omega)).trans (Below.heap_alloc _ _ _ (by omega))); have hD2 := HD1.out.of_block (hbk2 r (by omega)); have y1 := hD2.cells.2.1; have HD2 := Lib.hid hD2; have HROW2 := Lib.hid hrow2; have HB2 := Lib.hid (fun i hi => (hbl2 i hi).1); have hs2 := hg2.size; simp at hs2; have HFR2 := Lib.hid ((HFR1.out.alloc _).grown hg2 (fun i hi => .inr (by have := HB1.out i hi; omega))); have HRR3 := Lib.hid (HRR.out.of_block (hbk2 q (by omega))); clear hrow2 hg2 hbl2 hD2 hbk2 HROW1) | (at_builtin; (refine wpList_append_files rfl _ _ rfl wq.heap.size (.slice (some ⟨wq.heap.size, 0, none⟩) 0 0) 0 [] rfl HO.out ⟨q, 0, none⟩ k _ m1 rfl HL1.out HR1.out HF1.out (by omega) (by simp) ?_; intro v1 w1 hrow1 hg1 _; rw [List.nil_append, Nat.zero_add] at hrow1; have hbk1 : ∀ i, i < wq.heap.size → w1.heap[i]? = wq.heap[i]? := (fun i hi => (hg1.block i (by simp; omega) (by simp [Value.ownBlock]; omega)).trans (Below.heap_alloc _ _ _ hi)); have hs1 := hg1.size; simp at hs1; have hD1 := HDQ.out.of_block (hbk1 r (by omega)); have x1 := hD1.cells.2.1; have xp := fun o => cell_past x1 o; have hN1 := (hbk1 w.heap.size hlw).trans HNQ.out; have b0 := cell_of_row w1 w.heap.size 0 _ _ (0, 0) hN1; have b1 := cell_of_row w1 w.heap.size 1 _ _ (0, 0) hN1; have b2 := cell_of_row w1 w.heap.size 2 _ _ (0, 0) hN1; have HD1 := Lib.hid hD1; obtain ⟨A1, c1', hv1, hbl1⟩ := row_form hrow1; subst hv1; have HROW1 := Lib.hid (ent_next hrow1 e HEV.out); have HRE := Lib.hid (ent_row w1 e HEV.out); have HB1 := Lib.hid (fun i hi => (hbl1 i hi).1); have HFR1 := Lib.hid ((HFQ.out.alloc _).grown hg1 (fun i hi => by cases hi; exact .inr (show w.heap.size ≤ wq.heap.size by omega))); have HRR := Lib.hid (hr3.of_block (hbk1 q (by omega))); clear hrow1 hg1 hbl1 hD1 hN1 hbk1 HO)))
        go_end0
        refine ⟨rfl, ?_⟩
        rw [HINS.out, show m1 ++ e :: m2 = m1 ++ [e] ++ m2 by simp]
        exact turned_end0 HF3.out hrl HD3.out (row_zero HROW3.out) (fun i hi => ⟨by have := (HB3.out i hi).1; omega, (HB3.out i hi).2⟩) (by rw [List.length_append, List.length_append, HL1.out, HL2.out]; rfl)
      · have d1 := d0.2 (by omega)
        have d2 : decide (k < m.length) = false := decide_eq_false (by omega)
        clear d0 hkl
        go_wp2_with fail
        go_quiet (fail)
        have hstq := Still.drewN HST.out nq
        generalize wr.drewN nq = wq at *
        obtain ⟨hDq, hNq, hr1, hr3, hfq⟩ := put_facts (k := k) hstq HBW.out hk HD.out HN.out HRF.out
        have hlw : w.heap.size < wq.heap.size := (Array.getElem?_eq_some_iff.1 hNq).1
        have HDQ := Lib.hid hDq
        have HNQ := Lib.hid hNq
        have HR1 := Lib.hid hr1
        have HFQ := Lib.hid hfq
        have HO := Lib.hid (row_made wq)
        have k1q := hDq.cells.2.1
        have p1 := fun o => cell_past k1q o
        clear hstq hDq hNq hr1 hfq c0 c1 c2 c3 c4 k0 k1 k2 k1q
        generalize m.take k = m1 at *
        generalize m.drop k = m2 at *
        go_wp2_with (first | (at_builtin; have _ := HROW2; refine wpList_append_files rfl _ _ rfl wq.heap.size _ (k + 1) (m1 ++ [e]) rfl HROW2.out ⟨q, k * 3, none⟩ _ _ m2 rfl HL2.out HRR3.out HF2.out (by omega) (by omega) ?_; intro v3 w3 hrow3 hg3 _; obtain ⟨A3, c3', hv3, hbl3⟩ := row_form hrow3; subst hv3; have hD3 := HD2.out.of_block (hg3.block r (by omega) (by intro e; have := HB2.out r e.symm; omega)); have z1 := hD3.cells.2.1; have z2 := hD3.free 1; have HD3 := Lib.hid hD3; have HROW3 := Lib.hid hrow3; have HB3 := Lib.hid hbl3; have HF3 := Lib.hid (HFR2.out.grown hg3 (fun i hi => .inr (by have := HB2.out i hi; omega))); clear hrow3 hg3 hbl3 hD3 HROW2) | (at_builtin; have _ := HROW1; refine wpList_append_files rfl _ _ rfl wq.heap.size _ k m1 rfl HROW1.out ⟨w1.heap.size, 0, none⟩ 1 1 [e] rfl rfl HRE.out HFE.out (by omega) (by simp; omega) ?_; intro v2 w2 hrow2 hg2 _; obtain ⟨A2, c2', hv2, hbl2⟩ := row_form hrow2; subst hv2; have hbk2 : ∀ i, i < wq.heap.size → w2.heap[i]? = w1.heap[i]? := (fun i hi => (hg2.block i (by simp; omega) (by intro e; have := HB1.out i e.symm; omega)).trans (Below.heap_alloc _ _ _ (by omega))); have hD2 := HD1.out.of_block (hbk2 r (by omega)); have y1 := hD2.cells.2.1; have HD2 := Lib.hid hD2; have HROW2 := Lib.hid hrow2; have HB2 := Lib.hid (fun i hi => (hbl2 i hi).1); have hs2 := hg2.size; simp at hs2; have HFR2 := Lib.hid ((HFR1.out.alloc _).grown hg2 (fun i hi => .inr (by have := HB1.out i hi; omega))); have HRR3 := Lib.hid (HRR.out.of_block (hbk2 q (by omega))); clear hrow2 hg2 hbl2 hD2 hbk2 HROW1) | (at_builtin; (refine wpList_append_files rfl _ _ rfl wq.heap.size (.slice (some ⟨wq.heap.size, 0, none⟩) 0 0) 0 [] rfl HO.out ⟨q, 0, none⟩ k cap m1 rfl HL1.out HR1.out HF1.out (by omega) (by simp) ?_; intro v1 w1 hrow1 hg1 _; rw [List.nil_append, Nat.zero_add] at hrow1; have hbk1 : ∀ i, i < wq.heap.size → w1.heap[i]? = wq.heap[i]? := (fun i hi => (hg1.block i (by simp; omega) (by simp [Value.ownBlock]; omega)).trans (Below.heap_alloc _ _ _ hi)); have hs1 := hg1.size; simp at hs1; have hD1 := HDQ.out.of_block (hbk1 r (by omega)); have x1 := hD1.cells.2.1; have xp := fun o => cell_past x1 o; have hN1 := (hbk1 w.heap.size hlw).trans HNQ.out; have b0 := cell_of_row w1 w.heap.size 0 _ _ (0, 0) hN1; have b1 := cell_of_row w1 w.heap.size 1 _ _ (0, 0) hN1; have b2 := cell_of_row w1 w.heap.size 2 _ _ (0, 0) hN1; have HD1 := Lib.hid hD1; obtain ⟨A1, c1', hv1, hbl1⟩ := row_form hrow1; subst hv1; have HROW1 := Lib.hid (ent_next hrow1 e HEV.out); have HRE := Lib.hid (ent_row w1 e HEV.out); have HB1 := Lib.hid (fun i hi => (hbl1 i hi).1); have HFR1 := Lib.hid ((HFQ.out.alloc _).grown hg1 (fun i hi => by cases hi; exact .inr (show w.heap.size ≤ wq.heap.size by omega))); have HRR := Lib.hid (hr3.of_block (hbk1 q (by omega))); clear hrow1 hg1 hbl1 hD1 hN1 hbk1 HO)))
        go_end0
        refine ⟨rfl, ?_⟩
        rw [HINS.out, show m1 ++ e :: m2 = m1 ++ [e] ++ m2 by simp]
        exact turned_end0 HF3.out hrl HD3.out (row_zero HROW3.out) (fun i hi => ⟨by have := (HB3.out i hi).1; omega, (HB3.out i hi).2⟩) (by rw [List.length_append, List.length_append, HL1.out, HL2.out]; rfl)
end Go.Proofs.Ythdpdhjhpbkhaaa.Dk
