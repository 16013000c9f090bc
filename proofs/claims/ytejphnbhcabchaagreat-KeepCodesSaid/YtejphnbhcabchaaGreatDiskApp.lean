/-
  Append of the program's disk. Conditions: the disk lies in memory as it was made (Im), the bytes can be read.
-/
import Derived.Test.YtejphnbhcabchaaGreatDiskUnl
namespace Go.Proofs.YtejphnbhcabchaaGreat.Dk
open Go.RowKit Go.Proofs.YtejphnbhcabchaaGreat.Fld

/-- the file of that name, or the zero one -/
def here (m : List Ent) (s : ByteArray) : Ent := (found m s).getD ⟨s.data.toList, .slice none 0 0, [], 0⟩
theorem here_val (m : List Ent) (s : ByteArray) : foundV m s = (here m s).val := by
  unfold here foundV
  cases found m s <;> rfl
theorem here_nm (m : List Ent) (s : ByteArray) : (here m s).nm = s.data.toList := by
  unfold here
  cases hf : found m s with
  | none => rfl
  | some e => exact (get_some hf).2
theorem here_file {w : World} {g b : Nat} {m : List Ent} {t : St} (h : Im w g b m t) (s : ByteArray) : FileAt w (here m s) := by
  unfold here
  cases hf : found m s with
  | none => exact ⟨bytes_nil, rfl, .inl ⟨rfl, rfl⟩⟩
  | some e => exact h.file e (get_some hf).1
theorem here_block {g b : Nat} {m : List Ent} {s : ByteArray} {i : Nat} (hn : (g :: b :: blks m).Nodup) (hu : Up Ent.nm m) (hi : (here m s).v.ownBlock = some i) : i ∈ blks m ∧ i ∉ g :: b :: blks (del Ent.nm s.data.toList m) := by
  unfold here at hi
  cases hf : found m s with
  | none => rw [hf] at hi; cases hi
  | some e =>
    rw [hf] at hi
    obtain ⟨h1, h2⟩ := get_some hf
    have := apart hn hu h1 hi
    rw [h2] at this
    exact ⟨mem_blks.2 ⟨e, h1, hi⟩, this⟩
theorem here_app {w : World} {g b : Nat} {m : List Ent} {t : St} (h : Im w g b m t) (s : ByteArray) (ys : List Int) : appFs s.data.toList ys t.fs = fput (s.data.toList, (here m s).zs ++ ys, (here m s).s) t.fs := by
  unfold appFs here
  rw [h.get]
  cases found m s <;> rfl
theorem here_len {w : World} {g b : Nat} {m : List Ent} {t : St} (h : Im w g b m t) (s : ByteArray) : (here m s).zs.length ≤ total t.fs := by
  unfold here
  cases hf : found m s with
  | none => simp
  | some e =>
    have := total_del (f := e.fil) h.good.up (x := s.data.toList) (by rw [h.get, hf]; rfl)
    rw [this]
    exact Nat.le_add_right _ _
def bare (w : World) : World := { w with heap := #[] }
theorem FileAt.own {w : World} {e : Ent} (h : FileAt w e) : Own (bare w) w e.v e.zs := ⟨⟨rfl, rfl, rfl, Nat.zero_le _, fun k hk => absurd hk (by simp [bare])⟩, h.1, h.2⟩

theorem app_end {w W1 W2 W4 : World} {g b : Nat} {m : List Ent} {t : St} {s : ByteArray} (h : Im w g b m t) (ys : List Int) (hx : okN s.data.toList = true) (hys : Bytes ys) (hfit : total t.fs + ys.length ≤ t.room) (o : Obj) (hW1 : W1 = (w.alloc o).drew.drew)
    (v' : Value) (hO : Own (bare W1) W2 v' ((here m s).zs ++ ys)) (hg : W1.grownBy W2 (here m s).v.ownBlock) (hb : v'.ownBlock = (here m s).v.ownBlock ∨ v'.ownBlock = some W1.heap.size)
    (hturn : ((W2.setCell ⟨w.heap.size, 0, none⟩ v').drew).mapTurned W4 b)
    (ho : W4.ownsMap Tryz.prog 9 R1 b (put Ent.nm ⟨s.data.toList, v', (here m s).zs ++ ys, (here m s).s⟩ m).length (dOf (put Ent.nm ⟨s.data.toList, v', (here m s).zs ++ ys, (here m s).s⟩ m))) :
    Left w g b m { t with fs := appFs s.data.toList ys t.fs } ((W4.setCell ⟨g, 2, none⟩ (.int .i64 ((total t.fs + ys.length : Nat) : Int))).drew) := by
  obtain ⟨n1, n2, n3⟩ := h.ne
  have hlt := h.lt
  have hs1 : W1.heap.size = w.heap.size + 1 := by rw [hW1]; exact size_up w o
  have f1 : Fr (g :: b :: blks m) w W1 := by rw [hW1]; exact ((Fr.refl _ w).alloc o).drew.drew
  have hhb : ∀ i, (here m s).v.ownBlock = some i → i ∈ blks m ∧ i ∉ g :: b :: blks (del Ent.nm s.data.toList m) := fun i hi => here_block h.nodup h.up hi
  have f2 : Fr (g :: b :: blks m) w W2 := f1.grown hg (fun i hi => .inl (by simp [(hhb i hi).1]))
  have f3 : Fr (g :: b :: blks m) w (W2.setCell ⟨w.heap.size, 0, none⟩ v').drew := (f2.setCell ⟨w.heap.size, 0, none⟩ (.inr (Nat.le_refl _)) v').drew
  have f4 : Fr (g :: b :: blks m) w W4 := f3.turned hturn (.inl (by simp))
  have f5 : Fr (g :: b :: blks m) w (W4.setCell ⟨g, 2, none⟩ (.int .i64 ((total t.fs + ys.length : Nat) : Int))).drew := (f4.setCell ⟨g, 2, none⟩ (.inl (by simp)) _).drew
  have hs2 := hg.size
  -- a block that is none of these is as it was behind append
  have late : ∀ i, i < W2.heap.size → i ≠ g → i ≠ b → i ≠ w.heap.size → ((W4.setCell ⟨g, 2, none⟩ (.int .i64 ((total t.fs + ys.length : Nat) : Int))).drew).heap[i]? = W2.heap[i]? := by
    intro i hi h1 h2 h3
    show (W4.setCell ⟨g, 2, none⟩ _).heap[i]? = _
    rw [Below.heap_setCell _ _ _ _ h1, hturn.grown.block i (by show i < (W2.setCell ⟨w.heap.size, 0, none⟩ v').heap.size; simpa [World.setCell] using hi) (by simpa using h2)]
    show (W2.setCell ⟨w.heap.size, 0, none⟩ v').heap[i]? = _
    rw [Below.heap_setCell _ _ _ _ h3]
  have early : ∀ i, i < w.heap.size → (here m s).v.ownBlock ≠ some i → W2.heap[i]? = w.heap[i]? := by
    intro i hi hne
    rw [hg.block i (by omega) (Ne.symm hne), hW1]
    exact Below.heap_alloc _ _ _ hi
  have hdsk4 : W4.heap[g]? = w.heap[g]? := by
    rw [hturn.grown.block g (by show g < (W2.setCell ⟨w.heap.size, 0, none⟩ v').heap.size; have := h.dsk.lt; simp [World.setCell]; omega) (by simpa using n1)]
    show (W2.setCell ⟨w.heap.size, 0, none⟩ v').heap[g]? = _
    rw [Below.heap_setCell _ _ _ _ (by have := h.dsk.lt; simp; omega)]
    exact early g h.dsk.lt (fun hh => n2 (hhb g hh).1)
  have hown5 := (ho.setCell (a := ⟨g, 2, none⟩) (Ne.symm n1) (.int .i64 ((total t.fs + ys.length : Nat) : Int))).drew
  have hvb : ∀ i, v'.ownBlock = some i → i ∉ g :: b :: blks (del Ent.nm s.data.toList m) ∧ i < W2.heap.size ∧ i ≠ w.heap.size := by
    intro i hi
    have hi2 : i < W2.heap.size := by
      rcases hO.2.2.2 with ⟨hv, _⟩ | ⟨q, cap, cur, hv, _, hq, _⟩
      · rw [hv] at hi; cases hi
      · rw [hv] at hi; cases hi; exact (Array.getElem?_eq_some_iff.1 hq).1
    rcases hb with hb | hb
    · rw [hb] at hi
      refine ⟨(hhb i hi).2, hi2, ?_⟩
      have := hlt i (by simp [(hhb i hi).1])
      omega
    · rw [hb] at hi
      cases hi
      refine ⟨fun hm => ?_, hi2, by omega⟩
      have : W1.heap.size < w.heap.size := hlt _ (by
        simp only [List.mem_cons] at hm ⊢
        rcases hm with hm | hm | hm
        · exact .inl hm
        · exact .inr (.inl hm)
        · exact .inr (.inr (blks_del hm)))
      omega
  refine ⟨_, h.stored ⟨s.data.toList, v', (here m s).zs ++ ys, (here m s).s⟩ ?_ hown5 (here_app h s ys) (h.good.app _ _ hx hys hfit) ?_ ?_ (fun i hi => (hvb i hi).1) rfl rfl, f5, ?_⟩
  · have := Dsk.set2 (Dsk.of_block h.dsk hdsk4) ((total t.fs + ys.length : Nat) : Int)
    unfold DskT
    simp only [total_app h.good]
    exact this
  · refine (show FileAt W2 ⟨s.data.toList, v', (here m s).zs ++ ys, (here m s).s⟩ from ⟨hO.2.1, hO.2.2⟩).of_block fun i hi => ?_
    obtain ⟨h1, h2, h3⟩ := hvb i hi
    simp only [List.mem_cons, not_or] at h1
    exact late i h2 h1.1 h1.2.1 h3
  · intro a ha hn
    refine (h.file a ha).of_block fun i hi => ?_
    have hl := (h.file a ha).lt hi
    have hib : i ∈ blks m := mem_blks.2 ⟨a, ha, hi⟩
    rw [late i (by omega) (fun e => n2 (e ▸ hib)) (fun e => n3 (e ▸ hib)) (by omega)]
    refine early i hl fun hh => ?_
    exact (hhb i hh).2 (by simp only [List.mem_cons, mem_blks]; exact .inr (.inr ⟨a, mem_del.2 ⟨ha, hn⟩, hi⟩))
  · intro i hi
    obtain ⟨a, ha, hv⟩ := mem_blks.1 hi
    rcases mem_put.1 ha with rfl | ⟨ha, _⟩
    · rcases hb with hb | hb
      · rw [hb] at hv
        exact .inl (hhb i hv).1
      · rw [hb] at hv
        cases hv
        exact .inr (by omega)
    · exact .inl (mem_blks.2 ⟨a, ha, hv⟩)

theorem app_mid {w W1 w2 : World} {g b bd bb bn : Nat} {m : List Ent} {t : St} {s : ByteArray} {bv : Value} (h : Im w g b m t) (hm : t.fs.length ≤ 1000000) (hs : s.size ≤ maxLen)
    (od : bd ∉ g :: b :: blks m) (ob : bb ∉ g :: b :: blks m) (on : bn ∉ g :: b :: blks m)
    (hd : w.cell? ⟨bd, 0, none⟩ = some (.pointer (some ⟨g, 0, none⟩))) (hbb : w.cell? ⟨bb, 0, none⟩ = some bv) (hbn : w.cell? ⟨bn, 0, none⟩ = some (.string s))
    (v : Value) (k : Int) (hW1 : W1 = (w.alloc (.cells #[v, .int .i64 k] 82)).drew.drew) (hk : k = ((here m s).s : Int)) (hg : W1.grownBy w2 (here m s).v.ownBlock) (zs : List Int) (v1 : Value) :
    ∃ W4, (Instr.mapUpdate 69 (.map (some b)) (.string s) (.agg #[v1, .int .i64 k])).run Tryz.prog ((w2.setCell ⟨w.heap.size, 0, none⟩ v1).drew) = .ok () W4 ∧
      W4.ownsMap Tryz.prog 9 R1 b (put Ent.nm ⟨s.data.toList, v1, zs, (here m s).s⟩ m).length (dOf (put Ent.nm ⟨s.data.toList, v1, zs, (here m s).s⟩ m)) ∧ ((w2.setCell ⟨w.heap.size, 0, none⟩ v1).drew).mapTurned W4 b ∧
      w2.cell? ⟨w.heap.size, 0, none⟩ = some v ∧ w2.frozen? ⟨w.heap.size, 0, none⟩ = false ∧
      (w2.setCell ⟨w.heap.size, 0, none⟩ v1).cell? ⟨bd, 0, none⟩ = some (.pointer (some ⟨g, 0, none⟩)) ∧ (w2.setCell ⟨w.heap.size, 0, none⟩ v1).cell? ⟨bn, 0, none⟩ = some (.string s) ∧ (w2.setCell ⟨w.heap.size, 0, none⟩ v1).cell? ⟨g, 1, none⟩ = some (.map (some b)) ∧
      (w2.setCell ⟨w.heap.size, 0, none⟩ v1).cell? ⟨w.heap.size, 0, none⟩ = some v1 ∧ (w2.setCell ⟨w.heap.size, 0, none⟩ v1).cell? ⟨w.heap.size, 1, none⟩ = some (.int .i64 k) ∧
      W4.cell? ⟨bd, 0, none⟩ = some (.pointer (some ⟨g, 0, none⟩)) ∧ W4.cell? ⟨bb, 0, none⟩ = some bv ∧ W4.cell? ⟨g, 2, none⟩ = some (.int .i64 ((total t.fs : Nat) : Int)) ∧ W4.frozen? ⟨g, 2, none⟩ = false := by
  obtain ⟨n1, n2, n3⟩ := h.ne
  have hlt := h.lt
  have hs1 : W1.heap.size = w.heap.size + 1 := by rw [hW1]; exact size_up w _
  have hs2 := hg.size
  have hhb : ∀ i, (here m s).v.ownBlock = some i → i ∈ blks m ∧ i ∉ g :: b :: blks (del Ent.nm s.data.toList m) := fun i hi => here_block h.nodup h.up hi
  have early : ∀ i, i < w.heap.size → i ∉ blks m → w2.heap[i]? = w.heap[i]? := by
    intro i hi hne
    rw [hg.block i (by omega) (fun hh => hne (hhb i hh.symm).1), hW1]
    exact Below.heap_alloc _ _ _ hi
  have hN : w2.heap[w.heap.size]? = some (.cells #[v, .int .i64 k] 82 (0, 0)) := by
    rw [hg.block _ (by omega) (fun hh => by have := hlt _ (List.mem_cons_of_mem _ (List.mem_cons_of_mem _ (hhb _ hh.symm).1)); omega), hW1]
    exact heap_alloc_new w _
  have hN3 : (w2.setCell ⟨w.heap.size, 0, none⟩ v1).heap[w.heap.size]? = some (.cells #[v1, .int .i64 k] 82 (0, 0)) := heap_setCell_same w2 _ 0 _ _ _ hN
  have mid : ∀ i, i < w.heap.size → i ∉ blks m → (w2.setCell ⟨w.heap.size, 0, none⟩ v1).heap[i]? = w.heap[i]? := by
    intro i hi hne
    rw [Below.heap_setCell _ _ _ _ (by simp; omega)]
    exact early i hi hne
  have hown3 : ((w2.setCell ⟨w.heap.size, 0, none⟩ v1).drew).ownsMap Tryz.prog 9 R1 b m.length (dOf m) := own_of_block h.own (mid b h.own.lt n3)
  obtain ⟨W4, hup, hown4, hturn⟩ := store1 hown3 (by rw [h.len]; exact hm) s hs ⟨s.data.toList, v1, zs, (here m s).s⟩ rfl
  have late : ∀ i, i < w.heap.size → i ∉ blks m → i ≠ b → W4.heap[i]? = w.heap[i]? := by
    intro i hi hne hb
    rw [hturn.grown.block i (by show i < (w2.setCell ⟨w.heap.size, 0, none⟩ v1).heap.size; simp [World.setCell]; omega) (by simpa using hb)]
    exact mid i hi hne
  simp only [List.mem_cons, not_or] at od ob on
  have l1 := lt_of_cell hd
  have l2 := lt_of_cell hbb
  have l3 := lt_of_cell hbn
  have hD4 : Dsk W4 g _ b _ _ _ _ _ _ := Dsk.of_block h.dsk (late g h.dsk.lt n2 n1)
  have hD3 : Dsk (w2.setCell ⟨w.heap.size, 0, none⟩ v1) g _ b _ _ _ _ _ _ := Dsk.of_block h.dsk (mid g h.dsk.lt n2)
  refine ⟨W4, ?_, hown4, hturn, ?_, frozen_of_row w2 _ 0 _ _ hN, ?_, ?_, hD3.cells.2.1, ?_, ?_, ?_, ?_, hD4.cells.2.2.1, hD4.free 2⟩
  · rw [hk]; exact hup
  · rw [cell_of_row w2 _ 0 _ _ (0, 0) hN]; rfl
  · exact (World.cell?_of_block (w := w) (mid bd l1 od.2.2)).trans hd
  · exact (World.cell?_of_block (w := w) (mid bn l3 on.2.2)).trans hbn
  · rw [cell_of_row _ _ 0 _ _ (0, 0) hN3]; rfl
  · rw [cell_of_row _ _ 1 _ _ (0, 0) hN3]; rfl
  · exact (World.cell?_of_block (w := w) (late bd l1 od.2.2 od.2.1)).trans hd
  · exact (World.cell?_of_block (w := w) (late bb l2 ob.2.2 ob.2.1)).trans hbb
end Go.Proofs.YtejphnbhcabchaaGreat.Dk
