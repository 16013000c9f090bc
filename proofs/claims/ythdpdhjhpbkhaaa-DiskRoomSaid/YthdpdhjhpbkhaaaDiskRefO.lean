/-
  The document's own disk: a file is gone, a file is put in its place. Conditions: it lies in memory as it was made (Rf).
-/
import Derived.Test.YthdpdhjhpbkhaaaDiskRef
namespace Go.Proofs.Ythdpdhjhpbkhaaa.Dk
open Go.RowKit Go.Proofs.Ythdpdhjhpbkhaaa.Fld

theorem file_info : ∃ i, Try.prog.info? 75 = some i ∧ i.zero = some (.agg #[.string ByteArray.empty, .slice none 0 0, .int .i64 0]) ∧ i.size = 3 ∧ i.bytes = 48 := by
  have h : (Try.prog.info? 75).map (fun i => (i.zero, i.size, i.bytes)) = some (some (.agg #[.string ByteArray.empty, .slice none 0 0, .int .i64 0]), 3, 48) := by kernel_rfl
  cases hq : Try.prog.info? 75 with
  | none => simp [hq] at h
  | some i => simp [hq] at h; exact ⟨i, rfl, h⟩
theorem rowOf_append (a c : List Ent) : rowOf (a ++ c) = rowOf a ++ rowOf c := by simp [rowOf]
/-- entries whose second cell is a slice -/
def Flat (m : List Ent) : Prop := ∀ e ∈ m, ∃ A n cap, e.v = .slice A n cap
theorem rowOf_one {m : List Ent} (h : Flat m) : ∀ u ∈ rowOf m, u.oneCell' = true := by
  intro u hu
  simp only [rowOf, List.mem_flatMap, cells3] at hu
  obtain ⟨e, he, hu⟩ := hu
  obtain ⟨A, n, cap, hv⟩ := h e he
  simp only [List.mem_cons, List.not_mem_nil, or_false] at hu
  rcases hu with rfl | rfl | rfl
  · rfl
  · rw [hv]; rfl
  · rfl
/-- files that can be read, from an address on -/
def RdF3 (w : World) (ad : Addr) (m : List Ent) : Prop := ∀ j u, (rowOf m)[j]? = some u → w.cell? (ad.add j) = some u
set_option maxRecDepth 100000 in
theorem wpList_append_files {w : World} {ops : Array Oper} {rest : List Oper} {o : Oper} {a : Act} {Q : Exit → Act → World → Prop} (hgd : o.guard = none) (s x : Operand)
    (ho : o.op = .call { callee := .builtin .append, args := #[s, x], argTypes := #[56, 56] })
    (base : Nat) (v : Value) (n1 : Nat) (m1 : List Ent) (hs : a.eval s = v) (hown : w.ownsRow base 75 3 v n1 (rowOf m1))
    (ad : Addr) (k c : Nat) (m2 : List Ent) (hx : a.eval x = .slice (some ad) k c) (hk : m2.length = k) (hr : RdF3 w ad m2) (hfl : Flat m2) (hb : n1 + k ≤ 2000000) (hbase : base ≤ w.heap.size)
    (h : ∀ v' w', w'.ownsRow base 75 3 v' (n1 + k) (rowOf (m1 ++ m2)) → w.grownBy w' v.ownBlock → (v'.ownBlock = v.ownBlock ∨ v'.ownBlock = some w.heap.size) → wpList Try.prog ops Q rest (a.put o.dst v') w') : wpList Try.prog ops Q (o :: rest) a w := by
  obtain ⟨i, hi, hz, hsz, hby⟩ := file_info
  subst hk
  refine wpList_append_own_at w hgd s x _ ho base 75 i _ 3 48 Try.underlying56 hi hz hsz hby rfl (by omega) v _ _ hs hown ad m2.length c (rowOf m2) hx (rowOf_len m2) hr (rowOf_one hfl) (by unfold maxLen; omega) (by omega) hbase ?_
  intro v' w' hrow hg _ hat
  refine h v' w' ?_ hg hat
  rw [rowOf_append]
  exact hrow
theorem row_form {w : World} {base : Nat} {v : Value} {n : Nat} {xs : List Value} (h : w.ownsRow base 75 3 v n xs) : ∃ A cap, v = .slice A n cap ∧ ∀ i, v.ownBlock = some i → base ≤ i ∧ i < w.heap.size := by
  rcases h.2 with ⟨rfl, rfl⟩ | ⟨q, cap, cur, rfl, hg, hq, _⟩
  · exact ⟨none, 0, rfl, fun i hi => by cases hi⟩
  · exact ⟨_, cap, rfl, fun i hi => by cases hi; exact ⟨hg, (Array.getElem?_eq_some_iff.1 hq).1⟩⟩
theorem row_zero {w : World} {base : Nat} {v : Value} {n : Nat} {xs : List Value} (h : w.ownsRow base 75 3 v n xs) : w.ownsRow 0 75 3 v n xs := by
  refine ⟨h.1, ?_⟩
  rcases h.2 with h | ⟨q, cap, cur, hv, _, r⟩
  · exact .inl h
  · exact .inr ⟨q, cap, cur, hv, Nat.zero_le _, r⟩
theorem row_made (w : World) : (w.alloc (.cells #[] 75)).ownsRow w.heap.size 75 3 (.slice (some ⟨w.heap.size, 0, none⟩) 0 0) 0 (rowOf []) := ⟨rfl, .inr ⟨w.heap.size, 0, #[], rfl, Nat.le_refl _, heap_alloc_new w _, Nat.le_refl _, by unfold maxLen; omega, rfl, rfl⟩⟩
theorem RdF3.of_block {w w' : World} {ad : Addr} {m : List Ent} (h : RdF3 w ad m) (hb : w'.heap[ad.block]? = w.heap[ad.block]?) : RdF3 w' ad m := by
  intro j u hu
  have := h j u hu
  refine (World.cell?_of_block (w := w) ?_).trans this
  have e : (ad.add j).block = ad.block := by unfold Addr.add; split <;> rfl
  rw [e]
  exact hb
/-- the slice is another one now -/
def Turned (w : World) (r : Nat) (room fl al : Int) (down : Bool) (m : List Ent) (w' : World) : Prop :=
  ∃ A n cap, Dsr w' r room A n cap fl al down ∧ w'.ownsRow 0 75 3 (.slice A n cap) m.length (rowOf m) ∧ (∀ i, (Value.slice A n cap).ownBlock = some i → w.heap.size ≤ i ∧ i < w'.heap.size) ∧ Fr [r] w w'
theorem turned_end {w w2 : World} {r : Nat} {room fl al : Int} {down : Bool} {A A' : Option Addr} {n n' cap cap' : Nat} {m : List Ent} (hf : Fr [] w w2) (hrl : r < w.heap.size) (hD : Dsr w2 r room A n cap fl al down)
    (hrow : w2.ownsRow w.heap.size 75 3 (.slice A' n' cap') n' (rowOf m)) (hb : ∀ i, (Value.slice A' n' cap').ownBlock = some i → w.heap.size ≤ i ∧ i < w2.heap.size) (hn : m.length = n') :
    Turned w r room fl al down m (w2.setCell ⟨r, 1, none⟩ (.slice A' n' cap')) := by
  refine ⟨A', n', cap', hD.set1 A' n' cap', ?_, fun i hi => ⟨(hb i hi).1, by have := (hb i hi).2; simpa [World.setCell] using this⟩, (hf.mono (by simp)).setCell _ (.inl (by simp)) _⟩
  rw [hn]
  exact row_of_block (row_zero hrow) fun i hi => Below.heap_setCell _ _ _ _ (by have := (hb i hi).1; simp; omega)
set_option maxRecDepth 100000 in
set_option maxHeartbeats 3200000 in
theorem out_any (r q k cap : Nat) (room fl al : Int) (down : Bool) (m : List Ent) (w : World) (h : Dsr w r room (some ⟨q, 0, none⟩) m.length cap fl al down) (hq : q < w.heap.size) (hk : k < m.length) (hc : m.length ≤ cap) (hm : m.length ≤ 1000000) (hfl : Flat m)
    (hr : ∀ j, j ≤ m.length → RdF3 w ⟨q, j * 3, none⟩ (m.drop j)) :
    Calls Try.prog 50 #[.pointer (some ⟨r, 0, none⟩), .int .i64 (k : Int)] w fun e w' => e = .returned (.tuple #[]) ∧ Turned w r room fl al down (m.take k ++ m.drop (k + 1)) w' := by
  obtain ⟨c0, c1, c2, c3, c4⟩ := h.cells
  have hrl := h.lt
  have p1 := fun o => cell_past c1 o
  have hr1 : RdF3 (w.alloc (.cells #[] 75)) ⟨q, 0, none⟩ (m.take k) := by
    intro j u hu
    refine cell_past ?_ _
    have := hr 0 (by omega) j u
    simp only [Nat.zero_mul, List.drop_zero] at this
    refine this ?_
    have e : rowOf m = rowOf (m.take k) ++ rowOf (m.drop k) := by rw [← rowOf_append, List.take_append_drop]
    rw [e, List.getElem?_append_left]
    · exact hu
    · exact (List.getElem?_eq_some_iff.1 hu).1
  have HR2 := Lib.hid (hr (k + 1) (by omega))
  have HH := Lib.hid h
  have HO := Lib.hid (row_made w)
  have HR1 := Lib.hid hr1
  have HF1 := Lib.hid (show Flat (m.take k) from fun e he => hfl e (List.mem_of_mem_take he))
  have HF2 := Lib.hid (show Flat (m.drop (k + 1)) from fun e he => hfl e (List.mem_of_mem_drop he))
  have HL1 := Lib.hid (show (m.take k).length = k by rw [List.length_take]; omega)
  have HL2 := Lib.hid (show (m.drop (k + 1)).length = m.length - (k + 1) by rw [List.length_drop])
  have HE1 := Lib.hid (show ([] : List Ent) ++ m.take k = m.take k from rfl)
  clear hr1 hr h
  have hb1 : k + (m.length - (k + 1)) ≤ 1000000 := by omega
  by_cases hce : cap = k + 1
  · have hdn : m.drop (k + 1) = [] := List.drop_eq_nil_of_le (by omega)
    have hz : m.length - (k + 1) = 0 := by omega
    subst hce
    have HR3 := Lib.hid (show ∀ w1 : World, w1.heap[q]? = w.heap[q]? → RdF3 w1 ⟨q, 0, none⟩ (m.drop (k + 1)) from fun w1 _ => by rw [hdn]; intro j u hu; simp [rowOf] at hu)
    clear hdn HR2
    have HR2 := Lib.hid HR3.out
    clear HR3
    rw [hz] at HL2
    generalize m.take k = m1 at *
    generalize m.drop (k + 1) = m2 at *
    go_enter Try.func50, Try.ntmps50
    go_wp2_with (first | (at_builtin; have _ := HROW1; refine wpList_append_files rfl _ _ rfl w.heap.size _ k m1 rfl HROW1.out ⟨q, 0, none⟩ _ _ m2 rfl HL2.out HRR.out HF2.out (by omega) (by have := HG1.out.size; simp at this; omega) ?_; intro v2 w2 hrow2 hg2 hat2; obtain ⟨A2, c2', hv2, hbl2⟩ := row_form hrow2; subst hv2; have hD2 := HD1.out.of_block (hg2.block r (by have := HG1.out.size; simp at this; omega) (by intro e; have := HB1.out r e.symm; omega)); have z1 := hD2.cells.2.1; have z2 := hD2.free 1; have HD2 := Lib.hid hD2; have HROW2 := Lib.hid hrow2; have HG2 := Lib.hid hg2; have HB2 := Lib.hid hbl2; clear hrow2 hg2 hat2 hbl2 hD2 HROW1) | (at_builtin; refine wpList_append_files rfl _ _ rfl w.heap.size (.slice (some ⟨w.heap.size, 0, none⟩) 0 0) 0 [] rfl HO.out ⟨q, 0, none⟩ k (k + 1) m1 rfl HL1.out HR1.out HF1.out (by omega) (by simp) ?_; intro v1 w1 hrow1 hg1 hat1; rw [HE1.out, Nat.zero_add] at hrow1; have hbk : ∀ i, i < w.heap.size → w1.heap[i]? = w.heap[i]? := (fun i hi => (hg1.block i (by simp; omega) (by simp [Value.ownBlock]; omega)).trans (Below.heap_alloc _ _ _ hi)); have hD1 := HH.out.of_block (hbk r hrl); have k1 := hD1.cells.2.1; have HD1 := Lib.hid hD1; have HROW1 := Lib.hid hrow1; have HG1 := Lib.hid hg1; obtain ⟨A1, c1', hv1, hbl1⟩ := row_form hrow1; subst hv1; have HB1 := Lib.hid (fun i hi => (hbl1 i hi).1); have HRR := Lib.hid (HR2.out w1 (hbk q hq)); clear hrow1 hg1 hat1 hD1 hbl1 HO hbk))
    go_end0
    have f1 : Fr [] w w1 := ((Fr.refl [] w).alloc _).grown HG1.out (fun i hi => by cases hi; exact .inr (Nat.le_refl _))
    have f2 : Fr [] w w2 := f1.grown HG2.out (fun i hi => .inr (HB1.out i hi))
    exact ⟨rfl, turned_end f2 hrl HD2.out HROW2.out HB2.out (by rw [List.length_append, HL1.out, HL2.out]; omega)⟩
  · have HR3 := Lib.hid (show ∀ w1 : World, w1.heap[q]? = w.heap[q]? → RdF3 w1 ⟨q, (k + 1) * 3, none⟩ (m.drop (k + 1)) from fun w1 hb => HR2.out.of_block hb)
    clear HR2
    have HR2 := Lib.hid HR3.out
    clear HR3
    generalize m.take k = m1 at *
    generalize m.drop (k + 1) = m2 at *
    go_enter Try.func50, Try.ntmps50
    go_wp2_with (first | (at_builtin; have _ := HROW1; refine wpList_append_files rfl _ _ rfl w.heap.size _ k m1 rfl HROW1.out ⟨q, (k + 1) * 3, none⟩ _ _ m2 rfl HL2.out HRR.out HF2.out (by omega) (by have := HG1.out.size; simp at this; omega) ?_; intro v2 w2 hrow2 hg2 hat2; obtain ⟨A2, c2', hv2, hbl2⟩ := row_form hrow2; subst hv2; have hD2 := HD1.out.of_block (hg2.block r (by have := HG1.out.size; simp at this; omega) (by intro e; have := HB1.out r e.symm; omega)); have z1 := hD2.cells.2.1; have z2 := hD2.free 1; have HD2 := Lib.hid hD2; have HROW2 := Lib.hid hrow2; have HG2 := Lib.hid hg2; have HB2 := Lib.hid hbl2; clear hrow2 hg2 hat2 hbl2 hD2 HROW1) | (at_builtin; refine wpList_append_files rfl _ _ rfl w.heap.size (.slice (some ⟨w.heap.size, 0, none⟩) 0 0) 0 [] rfl HO.out ⟨q, 0, none⟩ k cap m1 rfl HL1.out HR1.out HF1.out (by omega) (by simp) ?_; intro v1 w1 hrow1 hg1 hat1; rw [HE1.out, Nat.zero_add] at hrow1; have hbk : ∀ i, i < w.heap.size → w1.heap[i]? = w.heap[i]? := (fun i hi => (hg1.block i (by simp; omega) (by simp [Value.ownBlock]; omega)).trans (Below.heap_alloc _ _ _ hi)); have hD1 := HH.out.of_block (hbk r hrl); have k1 := hD1.cells.2.1; have HD1 := Lib.hid hD1; have HROW1 := Lib.hid hrow1; have HG1 := Lib.hid hg1; obtain ⟨A1, c1', hv1, hbl1⟩ := row_form hrow1; subst hv1; have HB1 := Lib.hid (fun i hi => (hbl1 i hi).1); have HRR := Lib.hid (HR2.out w1 (hbk q hq)); clear hrow1 hg1 hat1 hD1 hbl1 HO hbk))
    go_end0
    have f1 : Fr [] w w1 := ((Fr.refl [] w).alloc _).grown HG1.out (fun i hi => by cases hi; exact .inr (Nat.le_refl _))
    have f2 : Fr [] w w2 := f1.grown HG2.out (fun i hi => .inr (HB1.out i hi))
    exact ⟨rfl, turned_end f2 hrl HD2.out HROW2.out HB2.out (by rw [List.length_append, HL1.out, HL2.out])⟩
end Go.Proofs.Ythdpdhjhpbkhaaa.Dk
