/-
  Several texts in one: Append of the program's disk. Conditions: the disk lies in memory as it was made (Im), the bytes can be read. Rename of the program's disk. Conditions: the disk lies in memory as it was made (Im).
-/
import Derived.Test.YtgmpdifggaggdaaGreatDoorJDiskName
namespace Go.Proofs.YtgmpdifggaggdaaGreatDoor.Dk
open Go.RowKit Go.Proofs.YtgmpdifggaggdaaGreatDoor.Fld

/-- the file of that name, or the zero one -/
def here (m : List Ent) (s : ByteArray) : Ent := (found m s).getD ⟨s.data.toList, .slice none 0 0, [], 0⟩
theorem here_val (m : List Ent) (s : ByteArray) : foundV m s = (here m s).val := by
  unfold here foundV
  cases found m s <;> rfl
theorem here_nm (m : List Ent) (s : ByteArray) : (here m s).nm = s.data.toList := by
  unfold here
  cases hf : found m s with
  | none => rfl
  | some e => exact (get_some hf).2
theorem here_file {w : World} {g b : Nat} {m : List Ent} {t : St} (h : Im w g b m t) (s : ByteArray) : FileAt w (here m s) := by
  unfold here
  cases hf : found m s with
  | none => exact ⟨bytes_nil, rfl, .inl ⟨rfl, rfl⟩⟩
  | some e => exact h.file e (get_some hf).1
theorem here_block {g b : Nat} {m : List Ent} {s : ByteArray} {i : Nat} (hn : (g :: b :: blks m).Nodup) (hu : Up Ent.nm m) (hi : (here m s).v.ownBlock = some i) : i ∈ blks m ∧ i ∉ g :: b :: blks (del Ent.nm s.data.toList m) := by
  unfold here at hi
  cases hf : found m s with
  | none => rw [hf] at hi; cases hi
  | some e =>
    rw [hf] at hi
    obtain ⟨h1, h2⟩ := get_some hf
    have := apart hn hu h1 hi
    rw [h2] at this
    exact ⟨mem_blks.2 ⟨e, h1, hi⟩, this⟩
theorem here_app {w : World} {g b : Nat} {m : List Ent} {t : St} (h : Im w g b m t) (s : ByteArray) (ys : List Int) : appFs s.data.toList ys t.fs = fput (s.data.toList, (here m s).zs ++ ys, (here m s).s) t.fs := by
  unfold appFs here
  rw [h.get]
  cases found m s <;> rfl
theorem here_len {w : World} {g b : Nat} {m : List Ent} {t : St} (h : Im w g b m t) (s : ByteArray) : (here m s).zs.length ≤ total t.fs := by
  unfold here
  cases hf : found m s with
  | none => simp
  | some e =>
    have := total_del (f := e.fil) h.good.up (x := s.data.toList) (by rw [h.get, hf]; rfl)
    rw [this]
    exact Nat.le_add_right _ _
def bare (w : World) : World := { w with heap := #[] }
theorem FileAt.own {w : World} {e : Ent} (h : FileAt w e) : Own (bare w) w e.v e.zs := ⟨⟨rfl, rfl, rfl, Nat.zero_le _, fun k hk => absurd hk (by simp [bare])⟩, h.1, h.2⟩

theorem app_end {w W1 W2 W4 : World} {g b : Nat} {m : List Ent} {t : St} {s : ByteArray} (h : Im w g b m t) (ys : List Int) (hx : okN s.data.toList = true) (hys : Bytes ys) (hfit : total t.fs + ys.length ≤ t.room) (o : Obj) (hW1 : W1 = (w.alloc o).drew.drew)
    (v' : Value) (hO : Own (bare W1) W2 v' ((here m s).zs ++ ys)) (hg : W1.grownBy W2 (here m s).v.ownBlock) (hb : v'.ownBlock = (here m s).v.ownBlock ∨ v'.ownBlock = some W1.heap.size)
    (hturn : ((W2.setCell ⟨w.heap.size, 0, none⟩ v').drew).mapTurned W4 b)
    (ho : W4.ownsMap Tryz.prog 9 R1 b (put Ent.nm ⟨s.data.toList, v', (here m s).zs ++ ys, (here m s).s⟩ m).length (dOf (put Ent.nm ⟨s.data.toList, v', (here m s).zs ++ ys, (here m s).s⟩ m))) :
    Left w g b m { t with fs := appFs s.data.toList ys t.fs } ((W4.setCell ⟨g, 2, none⟩ (.int .i64 ((total t.fs + ys.length : Nat) : Int))).drew) := by
  obtain ⟨n1, n2, n3⟩ := h.ne
  have hlt := h.lt
  have hs1 : W1.heap.size = w.heap.size + 1 := by rw [hW1]; exact size_up w o
  have f1 : Fr (g :: b :: blks m) w W1 := by rw [hW1]; exact ((Fr.refl _ w).alloc o).drew.drew
  have hhb : ∀ i, (here m s).v.ownBlock = some i → i ∈ blks m ∧ i ∉ g :: b :: blks (del Ent.nm s.data.toList m) := fun i hi => here_block h.nodup h.up hi
  have f2 : Fr (g :: b :: blks m) w W2 := f1.grown hg (fun i hi => .inl (by simp [(hhb i hi).1]))
  have f3 : Fr (g :: b :: blks m) w (W2.setCell ⟨w.heap.size, 0, none⟩ v').drew := (f2.setCell ⟨w.heap.size, 0, none⟩ (.inr (Nat.le_refl _)) v').drew
  have f4 : Fr (g :: b :: blks m) w W4 := f3.turned hturn (.inl (by simp))
  have f5 : Fr (g :: b :: blks m) w (W4.setCell ⟨g, 2, none⟩ (.int .i64 ((total t.fs + ys.length : Nat) : Int))).drew := (f4.setCell ⟨g, 2, none⟩ (.inl (by simp)) _).drew
  have hs2 := hg.size
  -- a block that is none of these is as it was behind append
  have late : ∀ i, i < W2.heap.size → i ≠ g → i ≠ b → i ≠ w.heap.size → ((W4.setCell ⟨g, 2, none⟩ (.int .i64 ((total t.fs + ys.length : Nat) : Int))).drew).heap[i]? = W2.heap[i]? := by
    intro i hi h1 h2 h3
    show (W4.setCell ⟨g, 2, none⟩ _).heap[i]? = _
    rw [Below.heap_setCell _ _ _ _ h1, hturn.grown.block i (by show i < (W2.setCell ⟨w.heap.size, 0, none⟩ v').heap.size; simpa [World.setCell] using hi) (by simpa using h2)]
    show (W2.setCell ⟨w.heap.size, 0, none⟩ v').heap[i]? = _
    rw [Below.heap_setCell _ _ _ _ h3]
  have early : ∀ i, i < w.heap.size → (here m s).v.ownBlock ≠ some i → W2.heap[i]? = w.heap[i]? := by
    intro i hi hne
    rw [hg.block i (by omega) (Ne.symm hne), hW1]
    exact Below.heap_alloc _ _ _ hi
  have hdsk4 : W4.heap[g]? = w.heap[g]? := by
    rw [hturn.grown.block g (by show g < (W2.setCell ⟨w.heap.size, 0, none⟩ v').heap.size; have := h.dsk.lt; simp [World.setCell]; omega) (by simpa using n1)]
    show (W2.setCell ⟨w.heap.size, 0, none⟩ v').heap[g]? = _
    rw [Below.heap_setCell _ _ _ _ (by have := h.dsk.lt; simp; omega)]
    exact early g h.dsk.lt (fun hh => n2 (hhb g hh).1)
  have hown5 := (ho.setCell (a := ⟨g, 2, none⟩) (Ne.symm n1) (.int .i64 ((total t.fs + ys.length : Nat) : Int))).drew
  have hvb : ∀ i, v'.ownBlock = some i → i ∉ g :: b :: blks (del Ent.nm s.data.toList m) ∧ i < W2.heap.size ∧ i ≠ w.heap.size := by
    intro i hi
    have hi2 : i < W2.heap.size := by
      rcases hO.2.2.2 with ⟨hv, _⟩ | ⟨q, cap, cur, hv, _, hq, _⟩
      · rw [hv] at hi; cases hi
      · rw [hv] at hi; cases hi; exact (Array.getElem?_eq_some_iff.1 hq).1
    rcases hb with hb | hb
    · rw [hb] at hi
      refine ⟨(hhb i hi).2, hi2, ?_⟩
      have := hlt i (by simp [(hhb i hi).1])
      omega
    · rw [hb] at hi
      cases hi
      refine ⟨fun hm => ?_, hi2, by omega⟩
      have : W1.heap.size < w.heap.size := hlt _ (by
        simp only [List.mem_cons] at hm ⊢
        rcases hm with hm | hm | hm
        · exact .inl hm
        · exact .inr (.inl hm)
        · exact .inr (.inr (blks_del hm)))
      omega
  refine ⟨_, h.stored ⟨s.data.toList, v', (here m s).zs ++ ys, (here m s).s⟩ ?_ hown5 (here_app h s ys) (h.good.app _ _ hx hys hfit) ?_ ?_ (fun i hi => (hvb i hi).1) rfl rfl, f5, ?_⟩
  · have := Dsk.set2 (Dsk.of_block h.dsk hdsk4) ((total t.fs + ys.length : Nat) : Int)
    unfold DskT
    simp only [total_app h.good]
    exact this
  · refine (show FileAt W2 ⟨s.data.toList, v', (here m s).zs ++ ys, (here m s).s⟩ from ⟨hO.2.1, hO.2.2⟩).of_block fun i hi => ?_
    obtain ⟨h1, h2, h3⟩ := hvb i hi
    simp only [List.mem_cons, not_or] at h1
    exact late i h2 h1.1 h1.2.1 h3
  · intro a ha hn
    refine (h.file a ha).of_block fun i hi => ?_
    have hl := (h.file a ha).lt hi
    have hib : i ∈ blks m := mem_blks.2 ⟨a, ha, hi⟩
    rw [late i (by omega) (fun e => n2 (e ▸ hib)) (fun e => n3 (e ▸ hib)) (by omega)]
    refine early i hl fun hh => ?_
    exact (hhb i hh).2 (by simp only [List.mem_cons, mem_blks]; exact .inr (.inr ⟨a, mem_del.2 ⟨ha, hn⟩, hi⟩))
  · intro i hi
    obtain ⟨a, ha, hv⟩ := mem_blks.1 hi
    rcases mem_put.1 ha with rfl | ⟨ha, _⟩
    · rcases hb with hb | hb
      · rw [hb] at hv
        exact .inl (hhb i hv).1
      · rw [hb] at hv
        cases hv
        exact .inr (by omega)
    · exact .inl (mem_blks.2 ⟨a, ha, hv⟩)

theorem app_mid {w W1 w2 : World} {g b bd bb bn : Nat} {m : List Ent} {t : St} {s : ByteArray} {bv : Value} (h : Im w g b m t) (hm : t.fs.length ≤ 1000000) (hs : s.size ≤ maxLen)
    (od : bd ∉ g :: b :: blks m) (ob : bb ∉ g :: b :: blks m) (on : bn ∉ g :: b :: blks m)
    (hd : w.cell? ⟨bd, 0, none⟩ = some (.pointer (some ⟨g, 0, none⟩))) (hbb : w.cell? ⟨bb, 0, none⟩ = some bv) (hbn : w.cell? ⟨bn, 0, none⟩ = some (.string s))
    (v : Value) (k : Int) (hW1 : W1 = (w.alloc (.cells #[v, .int .i64 k] 77)).drew.drew) (hk : k = ((here m s).s : Int)) (hg : W1.grownBy w2 (here m s).v.ownBlock) (zs : List Int) (v1 : Value) :
    ∃ W4, (Instr.mapUpdate 50 (.map (some b)) (.string s) (.agg #[v1, .int .i64 k])).run Tryz.prog ((w2.setCell ⟨w.heap.size, 0, none⟩ v1).drew) = .ok () W4 ∧
      W4.ownsMap Tryz.prog 9 R1 b (put Ent.nm ⟨s.data.toList, v1, zs, (here m s).s⟩ m).length (dOf (put Ent.nm ⟨s.data.toList, v1, zs, (here m s).s⟩ m)) ∧ ((w2.setCell ⟨w.heap.size, 0, none⟩ v1).drew).mapTurned W4 b ∧
      w2.cell? ⟨w.heap.size, 0, none⟩ = some v ∧ w2.frozen? ⟨w.heap.size, 0, none⟩ = false ∧
      (w2.setCell ⟨w.heap.size, 0, none⟩ v1).cell? ⟨bd, 0, none⟩ = some (.pointer (some ⟨g, 0, none⟩)) ∧ (w2.setCell ⟨w.heap.size, 0, none⟩ v1).cell? ⟨bn, 0, none⟩ = some (.string s) ∧ (w2.setCell ⟨w.heap.size, 0, none⟩ v1).cell? ⟨g, 1, none⟩ = some (.map (some b)) ∧
      (w2.setCell ⟨w.heap.size, 0, none⟩ v1).cell? ⟨w.heap.size, 0, none⟩ = some v1 ∧ (w2.setCell ⟨w.heap.size, 0, none⟩ v1).cell? ⟨w.heap.size, 1, none⟩ = some (.int .i64 k) ∧
      W4.cell? ⟨bd, 0, none⟩ = some (.pointer (some ⟨g, 0, none⟩)) ∧ W4.cell? ⟨bb, 0, none⟩ = some bv ∧ W4.cell? ⟨g, 2, none⟩ = some (.int .i64 ((total t.fs : Nat) : Int)) ∧ W4.frozen? ⟨g, 2, none⟩ = false := by
  obtain ⟨n1, n2, n3⟩ := h.ne
  have hlt := h.lt
  have hs1 : W1.heap.size = w.heap.size + 1 := by rw [hW1]; exact size_up w _
  have hs2 := hg.size
  have hhb : ∀ i, (here m s).v.ownBlock = some i → i ∈ blks m ∧ i ∉ g :: b :: blks (del Ent.nm s.data.toList m) := fun i hi => here_block h.nodup h.up hi
  have early : ∀ i, i < w.heap.size → i ∉ blks m → w2.heap[i]? = w.heap[i]? := by
    intro i hi hne
    rw [hg.block i (by omega) (fun hh => hne (hhb i hh.symm).1), hW1]
    exact Below.heap_alloc _ _ _ hi
  have hN : w2.heap[w.heap.size]? = some (.cells #[v, .int .i64 k] 77 (0, 0)) := by
    rw [hg.block _ (by omega) (fun hh => by have := hlt _ (List.mem_cons_of_mem _ (List.mem_cons_of_mem _ (hhb _ hh.symm).1)); omega), hW1]
    exact heap_alloc_new w _
  have hN3 : (w2.setCell ⟨w.heap.size, 0, none⟩ v1).heap[w.heap.size]? = some (.cells #[v1, .int .i64 k] 77 (0, 0)) := heap_setCell_same w2 _ 0 _ _ _ hN
  have mid : ∀ i, i < w.heap.size → i ∉ blks m → (w2.setCell ⟨w.heap.size, 0, none⟩ v1).heap[i]? = w.heap[i]? := by
    intro i hi hne
    rw [Below.heap_setCell _ _ _ _ (by simp; omega)]
    exact early i hi hne
  have hown3 : ((w2.setCell ⟨w.heap.size, 0, none⟩ v1).drew).ownsMap Tryz.prog 9 R1 b m.length (dOf m) := own_of_block h.own (mid b h.own.lt n3)
  obtain ⟨W4, hup, hown4, hturn⟩ := store1 hown3 (by rw [h.len]; exact hm) s hs ⟨s.data.toList, v1, zs, (here m s).s⟩ rfl
  have late : ∀ i, i < w.heap.size → i ∉ blks m → i ≠ b → W4.heap[i]? = w.heap[i]? := by
    intro i hi hne hb
    rw [hturn.grown.block i (by show i < (w2.setCell ⟨w.heap.size, 0, none⟩ v1).heap.size; simp [World.setCell]; omega) (by simpa using hb)]
    exact mid i hi hne
  simp only [List.mem_cons, not_or] at od ob on
  have l1 := lt_of_cell hd
  have l2 := lt_of_cell hbb
  have l3 := lt_of_cell hbn
  have hD4 : Dsk W4 g _ b _ _ _ _ _ _ := Dsk.of_block h.dsk (late g h.dsk.lt n2 n1)
  have hD3 : Dsk (w2.setCell ⟨w.heap.size, 0, none⟩ v1) g _ b _ _ _ _ _ _ := Dsk.of_block h.dsk (mid g h.dsk.lt n2)
  refine ⟨W4, ?_, hown4, hturn, ?_, frozen_of_row w2 _ 0 _ _ hN, ?_, ?_, hD3.cells.2.1, ?_, ?_, ?_, ?_, hD4.cells.2.2.1, hD4.free 2⟩
  · rw [hk]; exact hup
  · rw [cell_of_row w2 _ 0 _ _ (0, 0) hN]; rfl
  · exact (World.cell?_of_block (w := w) (mid bd l1 od.2.2)).trans hd
  · exact (World.cell?_of_block (w := w) (mid bn l3 on.2.2)).trans hbn
  · rw [cell_of_row _ _ 0 _ _ (0, 0) hN3]; rfl
  · rw [cell_of_row _ _ 1 _ _ (0, 0) hN3]; rfl
  · exact (World.cell?_of_block (w := w) (late bd l1 od.2.2 od.2.1)).trans hd
  · exact (World.cell?_of_block (w := w) (late bb l2 ob.2.2 ob.2.1)).trans hbb
end Go.Proofs.YtgmpdifggaggdaaGreatDoor.Dk

namespace Go.Proofs.YtgmpdifggaggdaaGreatDoor.Dk
open Go.RowKit Go.Proofs.YtgmpdifggaggdaaGreatDoor.Fld

theorem str_neq {s u : ByteArray} (h : s.data.toList ≠ u.data.toList) : (s.toList == u.toList) = false := by
  rw [ByteArray.toList_eq, ByteArray.toList_eq]
  simpa using h
theorem str_same' (s : ByteArray) : (s.toList == s.toList) = true := by simp
theorem nm_inj {s u : ByteArray} (h : s.data.toList = u.data.toList) : s = u := by
  cases s; cases u
  simp at h
  rw [h]
theorem ren_comm {m : List Ent} (hu : Up Ent.nm m) (x : Nm) (e : Ent) (hx : e.nm ≠ x) : del Ent.nm x (put Ent.nm e (del Ent.nm e.nm m)) = put Ent.nm e (del Ent.nm x (del Ent.nm e.nm m)) := by
  unfold put
  have h1 : del Ent.nm e.nm (del Ent.nm e.nm m) = del Ent.nm e.nm m := by
    unfold del
    rw [List.filter_filter]
    congr 1
    funext a
    simp
  have h2 : del Ent.nm e.nm (del Ent.nm x (del Ent.nm e.nm m)) = del Ent.nm x (del Ent.nm e.nm m) := by
    unfold del
    simp only [List.filter_filter]
    congr 1
    funext a
    cases (a.nm == e.nm) <;> cases (a.nm == x) <;> rfl
  rw [h1, h2]
  exact filter_ins _ e (by simpa using hx) (hu.del _)

/-- what is left behind a Rename onto another name -/
theorem ren_end {w W1 w2 w3 w4 : World} {g b : Nat} {m : List Ent} {t : St} {s u : ByteArray} {e : Ent} (h : Im w g b m t) (hf : found m s = some e) (hne : s.data.toList ≠ u.data.toList) (hu : okN u.data.toList = true) (hB : Below w.heap.size w W1)
    (hI : Im w2 g b (del Ent.nm u.data.toList m) { t with fs := fdel u.data.toList t.fs }) (hF : Fr [g, b] W1 w2) (ht3 : w2.drew.mapTurned w3 b) (ht4 : w3.drew.mapTurned w4 b)
    (ho : w4.ownsMap Tryz.prog 9 R1 b (del Ent.nm s.data.toList (put Ent.nm ⟨u.data.toList, e.v, e.zs, e.s⟩ (del Ent.nm u.data.toList m))).length (dOf (del Ent.nm s.data.toList (put Ent.nm ⟨u.data.toList, e.v, e.zs, e.s⟩ (del Ent.nm u.data.toList m))))) :
    Left w g b m { t with fs := fdel s.data.toList (fput (u.data.toList, e.zs, e.s) (fdel u.data.toList t.fs)) } w4 := by
  obtain ⟨n1, n2, n3⟩ := h.ne
  obtain ⟨he1, he2⟩ := get_some hf
  have hg : fget s.data.toList t.fs = some e.fil := by rw [h.get, hf]; rfl
  have f2 : Fr [b] w2 w4 := ((Fr.refl [b] w2).drew.turned ht3 (.inl (by simp))).drew.turned ht4 (.inl (by simp))
  have hall : ∀ i, i ∈ blks m → w4.heap[i]? = w.heap[i]? := by
    intro i hi
    have hl := h.lt i (by simp [hi])
    have hl1 : i < W1.heap.size := Nat.lt_of_lt_of_le hl hB.size
    have hib : i ≠ b := fun e => n3 (e ▸ hi)
    have hig : i ≠ g := fun e => n2 (e ▸ hi)
    rw [f2.block i (Nat.lt_of_lt_of_le hl1 hF.size) (by simpa using hib), hF.block i hl1 (by simp [hib, hig]), hB.block i hl]
  have hfile : ∀ a ∈ m, FileAt w4 a := fun a ha => (h.file a ha).of_block fun i hi => hall i (mem_blks.2 ⟨a, ha, hi⟩)
  have hcomm := ren_comm h.up s.data.toList ⟨u.data.toList, e.v, e.zs, e.s⟩ (Ne.symm hne)
  have hmem : ∀ a, a ∈ del Ent.nm s.data.toList (put Ent.nm ⟨u.data.toList, e.v, e.zs, e.s⟩ (del Ent.nm u.data.toList m)) → a = ⟨u.data.toList, e.v, e.zs, e.s⟩ ∨ a ∈ m := by
    intro a ha
    rcases mem_put.1 (mem_del.1 ha).1 with rfl | ⟨ha, _⟩
    · exact .inl rfl
    · exact .inr (mem_del.1 ha).1
  refine ⟨_, ⟨?_, ho, ?_, ?_, ?_, h.good.ren hg hne hu, h.fl, h.al⟩, ?_, ?_⟩
  · have h1 : DskT w4 g b { t with fs := fdel u.data.toList t.fs } := Dsk.of_block hI.dsk (f2.block g hI.dsk.lt (by simpa using n1))
    exact DskT.files (t := { t with fs := fdel u.data.toList t.fs }) h1 _ (total_ren (f := e.fil) h.good hg hne)
  · rw [map_del (k1 := Ent.nm) (k2 := Prod.fst) Ent.fil (fun _ => rfl), map_put (k1 := Ent.nm) (k2 := Prod.fst) Ent.fil (fun _ => rfl), map_del (k1 := Ent.nm) (k2 := Prod.fst) Ent.fil (fun _ => rfl), ← h.fs]
    rfl
  · intro a ha
    rcases hmem a ha with rfl | ha
    · exact hfile e he1
    · exact hfile a ha
  · rw [hcomm]
    refine nodup_put (nodup_del (nodup_del h.nodup _) _) ?_
    intro i hi hm
    have := apart h.nodup h.up he1 hi
    rw [he2] at this
    apply this
    simp only [List.mem_cons] at hm ⊢
    rcases hm with hm | hm | hm
    · exact .inl hm
    · exact .inr (.inl hm)
    · obtain ⟨a, ha, hv⟩ := mem_blks.1 (blks_del hm)
      exact .inr (.inr (mem_blks.2 ⟨a, mem_del.2 ⟨(mem_del.1 (mem_del.1 ha).1).1, (mem_del.1 ha).2⟩, hv⟩))
  · refine ((Fr.below (S := g :: b :: blks m) hB).same (hF.mono (by simp))).same (f2.mono (by simp))
  · intro i hi
    obtain ⟨a, ha, hv⟩ := mem_blks.1 hi
    rcases hmem a ha with rfl | ha
    · exact .inl (mem_blks.2 ⟨e, he1, hv⟩)
    · exact .inl (mem_blks.2 ⟨a, ha, hv⟩)
set_option maxRecDepth 100000 in
set_option maxHeartbeats 3200000 in
theorem ren_none (g b bd bn bu : Nat) (m : List Ent) (t : St) (s : ByteArray) (w : World) (h : Im w g b m t) (hs : s.size ≤ maxLen) (hd : w.cell? ⟨bd, 0, none⟩ = some (.pointer (some ⟨g, 0, none⟩))) (hn : w.cell? ⟨bn, 0, none⟩ = some (.string s)) (hf : found m s = none) :
    Calls Tryz.prog 70 #[.pointer (some ⟨bd, 0, none⟩), .pointer (some ⟨bn, 0, none⟩), .pointer (some ⟨bu, 0, none⟩)] w (Did w g b m (2, t)) := by
  have HI := Lib.hid h
  obtain ⟨c0, c1, c2, c3, c4, c5, c6, c7⟩ := Dsk.cells h.dsk
  have hlk := look2 h.own.drew s hs
  have hlo := fun o => look2 (own_past h.own o) s hs
  have hfv : foundV m s = zeroF := by unfold foundV; rw [hf]; rfl
  simp only [hfv, hf] at hlk hlo
  unfold zeroF at hlk hlo
  have pd := fun o => cell_past hd o
  have pn := fun o => cell_past hn o
  have p1 := fun o => cell_past c1 o
  clear h hfv
  go_enter Tryz.func70, Tryz.ntmps70
  go_wp2_with fail
  go_region
  go_wp2
  go_ret
  exact ⟨rfl, m, HI.out.below (((Below.refl _ _).alloc (Nat.le_refl _) _).drew), Fr.below (((Below.refl _ _).alloc (Nat.le_refl _) _).drew), fun _ hi => .inl hi⟩
set_option maxRecDepth 100000 in
set_option maxHeartbeats 3200000 in
theorem ren_self (g b bd bn bu : Nat) (m : List Ent) (t : St) (s : ByteArray) (e : Ent) (w : World) (h : Im w g b m t) (hs : s.size ≤ maxLen) (hd : w.cell? ⟨bd, 0, none⟩ = some (.pointer (some ⟨g, 0, none⟩))) (hn : w.cell? ⟨bn, 0, none⟩ = some (.string s)) (hu : w.cell? ⟨bu, 0, none⟩ = some (.string s)) (hf : found m s = some e) :
    Calls Tryz.prog 70 #[.pointer (some ⟨bd, 0, none⟩), .pointer (some ⟨bn, 0, none⟩), .pointer (some ⟨bu, 0, none⟩)] w (Did w g b m (0, t)) := by
  have HI := Lib.hid h
  obtain ⟨c0, c1, c2, c3, c4, c5, c6, c7⟩ := Dsk.cells h.dsk
  obtain ⟨A, cap, hv, _⟩ := (h.file e (get_some hf).1).form
  have hlk := look2 h.own.drew s hs
  have hlo := fun o => look2 (own_past h.own o) s hs
  have hfv : foundV m s = .agg #[.slice A e.zs.length cap, .int .i64 (e.s : Int)] := by unfold foundV; rw [hf, Option.map_some, Option.getD_some, Ent.val, hv]
  simp only [hfv, hf] at hlk hlo
  have pd := fun o => cell_past hd o
  have pn := fun o => cell_past hn o
  have pu := fun o => cell_past hu o
  have p1 := fun o => cell_past c1 o
  have hsm := str_same' s
  clear h hfv hv
  generalize e.zs.length = n at *
  go_enter Tryz.func70, Tryz.ntmps70
  go_wp2_with fail
  go_region
  go_wp2
  go_ret
  exact ⟨rfl, m, HI.out.below (((Below.refl _ _).alloc (Nat.le_refl _) _).drew), Fr.below (((Below.refl _ _).alloc (Nat.le_refl _) _).drew), fun _ hi => .inl hi⟩

theorem ren_mid {w W1 w2 : World} {g b bd bn bu : Nat} {m : List Ent} {t : St} {s u : ByteArray} {e : Ent} (h : Im w g b m t) (hm : t.fs.length ≤ 1000000) (hs : s.size ≤ maxLen) (hus : u.size ≤ maxLen) (hf : found m s = some e) (hne : s.data.toList ≠ u.data.toList) (hu : okN u.data.toList = true)
    (od : bd ∉ g :: b :: blks m) (on : bn ∉ g :: b :: blks m) (ou : bu ∉ g :: b :: blks m)
    (hd : w.cell? ⟨bd, 0, none⟩ = some (.pointer (some ⟨g, 0, none⟩))) (hbn : w.cell? ⟨bn, 0, none⟩ = some (.string s)) (hbu : w.cell? ⟨bu, 0, none⟩ = some (.string u))
    (v : Value) (k : Int) (hv : e.v = v) (hk : k = (e.s : Int)) (hW1 : W1 = (w.alloc (.cells #[v, .int .i64 k] 77)).drew) (hI : Im w2 g b (del Ent.nm u.data.toList m) { t with fs := fdel u.data.toList t.fs }) (hF : Fr [g, b] W1 w2) :
    ∃ w3 w4, (Instr.mapUpdate 50 (.map (some b)) (.string u) (.agg #[v, .int .i64 k])).run Tryz.prog w2.drew = .ok () w3 ∧
      (Builtin.delete_ #[50, 9] 0 #[.map (some b), .string s]).run Tryz.prog w3.drew = .ok (.tuple #[]) w4 ∧
      w2.cell? ⟨bd, 0, none⟩ = some (.pointer (some ⟨g, 0, none⟩)) ∧ w2.cell? ⟨bu, 0, none⟩ = some (.string u) ∧ w2.cell? ⟨g, 1, none⟩ = some (.map (some b)) ∧ w2.cell? ⟨w.heap.size, 0, none⟩ = some v ∧ w2.cell? ⟨w.heap.size, 1, none⟩ = some (.int .i64 k) ∧
      w3.cell? ⟨bd, 0, none⟩ = some (.pointer (some ⟨g, 0, none⟩)) ∧ w3.cell? ⟨bn, 0, none⟩ = some (.string s) ∧ w3.cell? ⟨g, 1, none⟩ = some (.map (some b)) ∧
      Left w g b m { t with fs := fdel s.data.toList (fput (u.data.toList, e.zs, e.s) (fdel u.data.toList t.fs)) } w4 := by
  obtain ⟨n1, n2, n3⟩ := h.ne
  have hB : Below w.heap.size w W1 := by rw [hW1]; exact ((Below.refl _ _).alloc (Nat.le_refl _) _).drew
  have hs1 : W1.heap.size = w.heap.size + 1 := by rw [hW1]; exact size_up w _
  have hlen : (del Ent.nm u.data.toList m).length ≤ 1000000 := Nat.le_trans (List.length_filter_le _ _) (by rw [h.len]; exact hm)
  obtain ⟨w3, hup, hown3, ht3⟩ := store1 hI.own.drew hlen u hus ⟨u.data.toList, v, e.zs, e.s⟩ rfl
  obtain ⟨w4, hdl, hown4, ht4⟩ := drop1 hown3.drew s hs 0
  have hL := ren_end h hf hne hu hB hI hF ht3 ht4 (by rw [hv]; exact hown4)
  simp only [List.mem_cons, not_or] at od on ou
  have hgl := h.dsk.lt
  have hbl := h.own.lt
  have two : ∀ i, i < w.heap.size → i ≠ g → i ≠ b → w2.heap[i]? = w.heap[i]? := by
    intro i hi h1 h2
    rw [hF.block i (by omega) (by simp [h1, h2]), hB.block i hi]
  have hN : w2.heap[w.heap.size]? = some (.cells #[v, .int .i64 k] 77 (0, 0)) := by
    rw [hF.block _ (by omega) (by simp; omega), hW1]
    exact heap_alloc_new w _
  have three : ∀ i, i < w2.heap.size → i ≠ b → w3.heap[i]? = w2.heap[i]? := by
    intro i hi h2
    exact ht3.grown.block i hi (by simpa using h2)
  have l1 := lt_of_cell hd
  have l2 := lt_of_cell hbn
  have l3 := lt_of_cell hbu
  have hsz := hF.size
  refine ⟨w3, w4, ?_, hdl, ?_, ?_, (Dsk.cells hI.dsk).2.1, ?_, ?_, ?_, ?_, ?_, hL⟩
  · rw [hk]; exact hup
  · exact (World.cell?_of_block (w := w) (two bd l1 od.1 od.2.1)).trans hd
  · exact (World.cell?_of_block (w := w) (two bu l3 ou.1 ou.2.1)).trans hbu
  · rw [cell_of_row _ _ 0 _ _ (0, 0) hN]; rfl
  · rw [cell_of_row _ _ 1 _ _ (0, 0) hN]; rfl
  · exact (World.cell?_of_block (w := w) ((three bd (by simp at l1; omega) od.2.1).trans (two bd l1 od.1 od.2.1))).trans hd
  · exact (World.cell?_of_block (w := w) ((three bn (by simp at l2; omega) on.2.1).trans (two bn l2 on.1 on.2.1))).trans hbn
  · exact (Dsk.cells (Dsk.of_block hI.dsk (three g hI.dsk.lt n1))).2.1
set_option maxRecDepth 100000 in
set_option maxHeartbeats 3200000 in
theorem ren_ok (g b bd bn bu : Nat) (m : List Ent) (t : St) (s u : ByteArray) (e : Ent) (w : World) (h : Im w g b m t) (hm : t.fs.length ≤ 1000000) (hs : okN s.data.toList = true) (hu : okN u.data.toList = true)
    (od : bd ∉ g :: b :: blks m) (on : bn ∉ g :: b :: blks m) (ou : bu ∉ g :: b :: blks m)
    (hd : w.cell? ⟨bd, 0, none⟩ = some (.pointer (some ⟨g, 0, none⟩))) (hbn : w.cell? ⟨bn, 0, none⟩ = some (.string s)) (hbu : w.cell? ⟨bu, 0, none⟩ = some (.string u)) (hf : found m s = some e) (hne : s.data.toList ≠ u.data.toList) :
    Calls Tryz.prog 70 #[.pointer (some ⟨bd, 0, none⟩), .pointer (some ⟨bn, 0, none⟩), .pointer (some ⟨bu, 0, none⟩)] w (Did w g b m (0, { t with fs := fdel s.data.toList (fput (u.data.toList, e.zs, e.s) (fdel u.data.toList t.fs)) })) := by
  have hss := size_of_ok hs
  have hus := size_of_ok hu
  obtain ⟨c0, c1, c2, c3, c4, c5, c6, c7⟩ := Dsk.cells h.dsk
  obtain ⟨A, cap, hv, _⟩ := (h.file e (get_some hf).1).form
  have hlk := look2 h.own.drew s hss
  have hlo := fun o => look2 (own_past h.own o) s hss
  have hfv : foundV m s = .agg #[.slice A e.zs.length cap, .int .i64 (e.s : Int)] := by unfold foundV; rw [hf, Option.map_some, Option.getD_some, Ent.val, hv]
  simp only [hfv, hf] at hlk hlo
  have pd := fun o => cell_past hd o
  have pn := fun o => cell_past hbn o
  have pu := fun o => cell_past hbu o
  have p1 := fun o => cell_past c1 o
  have hsn := str_neq hne
  have HMID := Lib.hid (fun w2 hI hF => ren_mid (w2 := w2) h hm hss hus hf hne hu od on ou hd hbn hbu _ _ hv rfl rfl hI hF)
  have hb : Below w.heap.size w (w.alloc (.cells #[.slice A e.zs.length cap, .int .i64 (e.s : Int)] 77)).drew := ((Below.refl _ _).alloc (Nat.le_refl _) _).drew
  have HR := Lib.hid (remove_any g b m t u _ (h.below hb) hus)
  clear h hfv hv hb
  generalize hst : ({ t with fs := fdel s.data.toList (fput (u.data.toList, e.zs, e.s) (fdel u.data.toList t.fs)) } : St) = t' at *
  clear hst
  generalize e.zs.length = n at *
  go_enter Tryz.func70, Tryz.ntmps70
  go_wp2_with fail
  go_region
  go_wp2_with (go_at_call 57; refine HR.out.mono ?_; rintro e w2 ⟨rfl, hI, hF⟩; obtain ⟨w3, w4, m1, m2, m3, m4, m5, m6, m7, m8, m9, m10, hL⟩ := HMID.out w2 hI hF; have HL := Lib.hid hL; clear hI hF hL HMID HR)
  go_region
  go_wp2_with fail
  go_region
  go_wp2
  go_ret
  exact ⟨rfl, HL.out⟩
theorem ren1_did (g b bd bn bu : Nat) (m : List Ent) (t : St) (s u : ByteArray) (w : World) (h : Im w g b m t) (hm : t.fs.length ≤ 1000000) (hs : okN s.data.toList = true) (hu : okN u.data.toList = true)
    (od : bd ∉ g :: b :: blks m) (on : bn ∉ g :: b :: blks m) (ou : bu ∉ g :: b :: blks m)
    (hd : w.cell? ⟨bd, 0, none⟩ = some (.pointer (some ⟨g, 0, none⟩))) (hbn : w.cell? ⟨bn, 0, none⟩ = some (.string s)) (hbu : w.cell? ⟨bu, 0, none⟩ = some (.string u)) :
    Calls Tryz.prog 70 #[.pointer (some ⟨bd, 0, none⟩), .pointer (some ⟨bn, 0, none⟩), .pointer (some ⟨bu, 0, none⟩)] w (Did w g b m (ren1 s.data.toList u.data.toList t)) := by
  unfold ren1
  rw [h.get]
  cases hf : found m s with
  | none => exact ren_none g b bd bn bu m t s w h (size_of_ok hs) hd hbn hf
  | some e =>
    simp only [Option.map_some]
    split
    · rename_i he
      have := nm_inj he
      subst this
      exact ren_self g b bd bn bu m t s e w h (size_of_ok hs) hd hbn hbu hf
    · rename_i hne
      exact ren_ok g b bd bn bu m t s u e w h hm hs hu od on ou hd hbn hbu hf hne
theorem ren_enters (caps : Array Value) (w : World) : (callFunc 70 caps).run Tryz.prog w = .ok (.enter 70 caps) w := enters_of Tryz.func70 (by kernel_rfl) rfl caps w
set_option maxRecDepth 100000 in
set_option maxHeartbeats 3200000 in
theorem ren_did (g b : Nat) (m : List Ent) (t : St) (s u : ByteArray) (w : World) (h : Im w g b m t) (hm : t.fs.length ≤ 1000000) :
    Calls Tryz.prog 45 #[.pointer (some ⟨g, 0, none⟩), .string s, .string u] w (Did w g b m (stRename s.data.toList u.data.toList t)) := by
  have HM := Lib.hid (mod2 _ g b ren_enters m t s u w h (ren1 s.data.toList u.data.toList) fun bd bn bu w1 hI hs hu od on ou hd hbn hbu => ren1_did g b bd bn bu m _ s u w1 hI (by rw [(chg_same t).2]; exact hm) hs hu od on ou hd hbn hbu)
  clear h
  unfold stRename
  generalize doing (okN s.data.toList && okN u.data.toList) t (ren1 s.data.toList u.data.toList) = r at *
  go_enter Tryz.func45, Tryz.ntmps45
  go_wp2_with (go_at_call 55; refine HM.out.mono ?_; rintro e w' ⟨rfl, hL⟩; have HL := Lib.hid hL; clear hL)
  go_ret
  exact ⟨rfl, HL.out⟩
end Go.Proofs.YtgmpdifggaggdaaGreatDoor.Dk
