/-
  Several texts in one: Rename of the program's disk. Conditions: the disk lies in memory as it was made (Im). Sync and Unlink of the program's disk. Conditions: the disk lies in memory as it was made (Im).
-/
import Derived.Test.YtnppomiggajhnaaGreatDoorJDiskFault
import Derived.Great.BuildSlice
import Derived.Shelf.Abstract
namespace Go.Proofs.YtnppomiggajhnaaGreatDoor.Dk
open Go.RowKit Go.Proofs.YtnppomiggajhnaaGreatDoor.Fld

theorem str_neq {s u : ByteArray} (h : s.data.toList ≠ u.data.toList) : (s.toList == u.toList) = false := by
  rw [ByteArray.toList_eq, ByteArray.toList_eq]
  simpa using h
theorem str_same' (s : ByteArray) : (s.toList == s.toList) = true := by simp
theorem nm_inj {s u : ByteArray} (h : s.data.toList = u.data.toList) : s = u := by
  cases s; cases u
  simp at h
  rw [h]
theorem ren_comm {m : List Ent} (hu : Up Ent.nm m) (x : Nm) (e : Ent) (hx : e.nm ≠ x) : del Ent.nm x (put Ent.nm e (del Ent.nm e.nm m)) = put Ent.nm e (del Ent.nm x (del Ent.nm e.nm m)) := by
  unfold put
  have h1 : del Ent.nm e.nm (del Ent.nm e.nm m) = del Ent.nm e.nm m := by
    unfold del
    rw [List.filter_filter]
    congr 1
    funext a
    simp
  have h2 : del Ent.nm e.nm (del Ent.nm x (del Ent.nm e.nm m)) = del Ent.nm x (del Ent.nm e.nm m) := by
    unfold del
    simp only [List.filter_filter]
    congr 1
    funext a
    cases (a.nm == e.nm) <;> cases (a.nm == x) <;> rfl
  rw [h1, h2]
  exact filter_ins _ e (by simpa using hx) (hu.del _)

/-- what is left behind a Rename onto another name -/
theorem ren_end {w W1 w2 w3 w4 : World} {g b : Nat} {m : List Ent} {t : St} {s u : ByteArray} {e : Ent} (h : Im w g b m t) (hf : found m s = some e) (hne : s.data.toList ≠ u.data.toList) (hu : okN u.data.toList = true) (hB : Below w.heap.size w W1)
    (hI : Im w2 g b (del Ent.nm u.data.toList m) { t with fs := fdel u.data.toList t.fs }) (hF : Fr [g, b] W1 w2) (ht3 : w2.drew.mapTurned w3 b) (ht4 : w3.drew.mapTurned w4 b)
    (ho : w4.ownsMap Tryz.prog 9 R1 b (del Ent.nm s.data.toList (put Ent.nm ⟨u.data.toList, e.v, e.zs, e.s⟩ (del Ent.nm u.data.toList m))).length (dOf (del Ent.nm s.data.toList (put Ent.nm ⟨u.data.toList, e.v, e.zs, e.s⟩ (del Ent.nm u.data.toList m))))) :
    Left w g b m { t with fs := fdel s.data.toList (fput (u.data.toList, e.zs, e.s) (fdel u.data.toList t.fs)) } w4 := by
  obtain ⟨n1, n2, n3⟩ := h.ne
  obtain ⟨he1, he2⟩ := get_some hf
  have hg : fget s.data.toList t.fs = some e.fil := by rw [h.get, hf]; rfl
  have f2 : Fr [b] w2 w4 := ((Fr.refl [b] w2).drew.turned ht3 (.inl (by simp))).drew.turned ht4 (.inl (by simp))
  have hall : ∀ i, i ∈ blks m → w4.heap[i]? = w.heap[i]? := by
    intro i hi
    have hl := h.lt i (by simp [hi])
    have hl1 : i < W1.heap.size := Nat.lt_of_lt_of_le hl hB.size
    have hib : i ≠ b := fun e => n3 (e ▸ hi)
    have hig : i ≠ g := fun e => n2 (e ▸ hi)
    rw [f2.block i (Nat.lt_of_lt_of_le hl1 hF.size) (by simpa using hib), hF.block i hl1 (by simp [hib, hig]), hB.block i hl]
  have hfile : ∀ a ∈ m, FileAt w4 a := fun a ha => (h.file a ha).of_block fun i hi => hall i (mem_blks.2 ⟨a, ha, hi⟩)
  have hcomm := ren_comm h.up s.data.toList ⟨u.data.toList, e.v, e.zs, e.s⟩ (Ne.symm hne)
  have hmem : ∀ a, a ∈ del Ent.nm s.data.toList (put Ent.nm ⟨u.data.toList, e.v, e.zs, e.s⟩ (del Ent.nm u.data.toList m)) → a = ⟨u.data.toList, e.v, e.zs, e.s⟩ ∨ a ∈ m := by
    intro a ha
    rcases mem_put.1 (mem_del.1 ha).1 with rfl | ⟨ha, _⟩
    · exact .inl rfl
    · exact .inr (mem_del.1 ha).1
  refine ⟨_, ⟨?_, ho, ?_, ?_, ?_, h.good.ren hg hne hu, h.fl, h.al⟩, ?_, ?_⟩
  · have h1 : DskT w4 g b { t with fs := fdel u.data.toList t.fs } := Dsk.of_block hI.dsk (f2.block g hI.dsk.lt (by simpa using n1))
    exact DskT.files (t := { t with fs := fdel u.data.toList t.fs }) h1 _ (total_ren (f := e.fil) h.good hg hne)
  · rw [map_del (k1 := Ent.nm) (k2 := Prod.fst) Ent.fil (fun _ => rfl), map_put (k1 := Ent.nm) (k2 := Prod.fst) Ent.fil (fun _ => rfl), map_del (k1 := Ent.nm) (k2 := Prod.fst) Ent.fil (fun _ => rfl), ← h.fs]
    rfl
  · intro a ha
    rcases hmem a ha with rfl | ha
    · exact hfile e he1
    · exact hfile a ha
  · rw [hcomm]
    refine nodup_put (nodup_del (nodup_del h.nodup _) _) ?_
    intro i hi hm
    have := apart h.nodup h.up he1 hi
    rw [he2] at this
    apply this
    simp only [List.mem_cons] at hm ⊢
    rcases hm with hm | hm | hm
    · exact .inl hm
    · exact .inr (.inl hm)
    · obtain ⟨a, ha, hv⟩ := mem_blks.1 (blks_del hm)
      exact .inr (.inr (mem_blks.2 ⟨a, mem_del.2 ⟨(mem_del.1 (mem_del.1 ha).1).1, (mem_del.1 ha).2⟩, hv⟩))
  · refine ((Fr.below (S := g :: b :: blks m) hB).same (hF.mono (by simp))).same (f2.mono (by simp))
  · intro i hi
    obtain ⟨a, ha, hv⟩ := mem_blks.1 hi
    rcases hmem a ha with rfl | ha
    · exact .inl (mem_blks.2 ⟨e, he1, hv⟩)
    · exact .inl (mem_blks.2 ⟨a, ha, hv⟩)
set_option maxRecDepth 100000 in
set_option maxHeartbeats 3200000 in
theorem ren_none (g b bd bn bu : Nat) (m : List Ent) (t : St) (s : ByteArray) (w : World) (h : Im w g b m t) (hs : s.size ≤ maxLen) (hd : w.cell? ⟨bd, 0, none⟩ = some (.pointer (some ⟨g, 0, none⟩))) (hn : w.cell? ⟨bn, 0, none⟩ = some (.string s)) (hf : found m s = none) :
    Calls Tryz.prog 136 #[.pointer (some ⟨bd, 0, none⟩), .pointer (some ⟨bn, 0, none⟩), .pointer (some ⟨bu, 0, none⟩)] w (Did w g b m (2, t)) := by
  have HI := Lib.hid h
  obtain ⟨c0, c1, c2, c3, c4, c5, c6, c7⟩ := Dsk.cells h.dsk
  have hlk := look2 h.own.drew s hs
  have hlo := fun o => look2 (own_past h.own o) s hs
  have hfv : foundV m s = zeroF := by unfold foundV; rw [hf]; rfl
  simp only [hfv, hf] at hlk hlo
  unfold zeroF at hlk hlo
  have pd := fun o => cell_past hd o
  have pn := fun o => cell_past hn o
  have p1 := fun o => cell_past c1 o
  clear h hfv
  go_enter Tryz.func136, Tryz.ntmps136
  go_wp2_with fail
  go_region
  go_wp2
  go_ret
  exact ⟨rfl, m, HI.out.below (((Below.refl _ _).alloc (Nat.le_refl _) _).drew), Fr.below (((Below.refl _ _).alloc (Nat.le_refl _) _).drew), fun _ hi => .inl hi⟩
set_option maxRecDepth 100000 in
set_option maxHeartbeats 3200000 in
theorem ren_self (g b bd bn bu : Nat) (m : List Ent) (t : St) (s : ByteArray) (e : Ent) (w : World) (h : Im w g b m t) (hs : s.size ≤ maxLen) (hd : w.cell? ⟨bd, 0, none⟩ = some (.pointer (some ⟨g, 0, none⟩))) (hn : w.cell? ⟨bn, 0, none⟩ = some (.string s)) (hu : w.cell? ⟨bu, 0, none⟩ = some (.string s)) (hf : found m s = some e) :
    Calls Tryz.prog 136 #[.pointer (some ⟨bd, 0, none⟩), .pointer (some ⟨bn, 0, none⟩), .pointer (some ⟨bu, 0, none⟩)] w (Did w g b m (0, t)) := by
  have HI := Lib.hid h
  obtain ⟨c0, c1, c2, c3, c4, c5, c6, c7⟩ := Dsk.cells h.dsk
  obtain ⟨A, cap, hv, _⟩ := (h.file e (get_some hf).1).form
  have hlk := look2 h.own.drew s hs
  have hlo := fun o => look2 (own_past h.own o) s hs
  have hfv : foundV m s = .agg #[.slice A e.zs.length cap, .int .i64 (e.s : Int)] := by unfold foundV; rw [hf, Option.map_some, Option.getD_some, Ent.val, hv]
  simp only [hfv, hf] at hlk hlo
  have pd := fun o => cell_past hd o
  have pn := fun o => cell_past hn o
  have pu := fun o => cell_past hu o
  have p1 := fun o => cell_past c1 o
  have hsm := str_same' s
  clear h hfv hv
  generalize e.zs.length = n at *
  go_enter Tryz.func136, Tryz.ntmps136
  go_wp2_with fail
  go_region
  go_wp2
  go_ret
  exact ⟨rfl, m, HI.out.below (((Below.refl _ _).alloc (Nat.le_refl _) _).drew), Fr.below (((Below.refl _ _).alloc (Nat.le_refl _) _).drew), fun _ hi => .inl hi⟩

theorem ren_mid {w W1 w2 : World} {g b bd bn bu : Nat} {m : List Ent} {t : St} {s u : ByteArray} {e : Ent} (h : Im w g b m t) (hm : t.fs.length ≤ 1000000) (hs : s.size ≤ maxLen) (hus : u.size ≤ maxLen) (hf : found m s = some e) (hne : s.data.toList ≠ u.data.toList) (hu : okN u.data.toList = true)
    (od : bd ∉ g :: b :: blks m) (on : bn ∉ g :: b :: blks m) (ou : bu ∉ g :: b :: blks m)
    (hd : w.cell? ⟨bd, 0, none⟩ = some (.pointer (some ⟨g, 0, none⟩))) (hbn : w.cell? ⟨bn, 0, none⟩ = some (.string s)) (hbu : w.cell? ⟨bu, 0, none⟩ = some (.string u))
    (v : Value) (k : Int) (hv : e.v = v) (hk : k = (e.s : Int)) (hW1 : W1 = (w.alloc (.cells #[v, .int .i64 k] 95)).drew) (hI : Im w2 g b (del Ent.nm u.data.toList m) { t with fs := fdel u.data.toList t.fs }) (hF : Fr [g, b] W1 w2) :
    ∃ w3 w4, (Instr.mapUpdate 74 (.map (some b)) (.string u) (.agg #[v, .int .i64 k])).run Tryz.prog w2.drew = .ok () w3 ∧
      (Builtin.delete_ #[74, 9] 0 #[.map (some b), .string s]).run Tryz.prog w3.drew = .ok (.tuple #[]) w4 ∧
      w2.cell? ⟨bd, 0, none⟩ = some (.pointer (some ⟨g, 0, none⟩)) ∧ w2.cell? ⟨bu, 0, none⟩ = some (.string u) ∧ w2.cell? ⟨g, 1, none⟩ = some (.map (some b)) ∧ w2.cell? ⟨w.heap.size, 0, none⟩ = some v ∧ w2.cell? ⟨w.heap.size, 1, none⟩ = some (.int .i64 k) ∧
      w3.cell? ⟨bd, 0, none⟩ = some (.pointer (some ⟨g, 0, none⟩)) ∧ w3.cell? ⟨bn, 0, none⟩ = some (.string s) ∧ w3.cell? ⟨g, 1, none⟩ = some (.map (some b)) ∧
      Left w g b m { t with fs := fdel s.data.toList (fput (u.data.toList, e.zs, e.s) (fdel u.data.toList t.fs)) } w4 := by
  obtain ⟨n1, n2, n3⟩ := h.ne
  have hB : Below w.heap.size w W1 := by rw [hW1]; exact ((Below.refl _ _).alloc (Nat.le_refl _) _).drew
  have hs1 : W1.heap.size = w.heap.size + 1 := by rw [hW1]; exact size_up w _
  have hlen : (del Ent.nm u.data.toList m).length ≤ 1000000 := Nat.le_trans (List.length_filter_le _ _) (by rw [h.len]; exact hm)
  obtain ⟨w3, hup, hown3, ht3⟩ := store1 hI.own.drew hlen u hus ⟨u.data.toList, v, e.zs, e.s⟩ rfl
  obtain ⟨w4, hdl, hown4, ht4⟩ := drop1 hown3.drew s hs 0
  have hL := ren_end h hf hne hu hB hI hF ht3 ht4 (by rw [hv]; exact hown4)
  simp only [List.mem_cons, not_or] at od on ou
  have hgl := h.dsk.lt
  have hbl := h.own.lt
  have two : ∀ i, i < w.heap.size → i ≠ g → i ≠ b → w2.heap[i]? = w.heap[i]? := by
    intro i hi h1 h2
    rw [hF.block i (by omega) (by simp [h1, h2]), hB.block i hi]
  have hN : w2.heap[w.heap.size]? = some (.cells #[v, .int .i64 k] 95 (0, 0)) := by
    rw [hF.block _ (by omega) (by simp; omega), hW1]
    exact heap_alloc_new w _
  have three : ∀ i, i < w2.heap.size → i ≠ b → w3.heap[i]? = w2.heap[i]? := by
    intro i hi h2
    exact ht3.grown.block i hi (by simpa using h2)
  have l1 := lt_of_cell hd
  have l2 := lt_of_cell hbn
  have l3 := lt_of_cell hbu
  have hsz := hF.size
  refine ⟨w3, w4, ?_, hdl, ?_, ?_, (Dsk.cells hI.dsk).2.1, ?_, ?_, ?_, ?_, ?_, hL⟩
  · rw [hk]; exact hup
  · exact (World.cell?_of_block (w := w) (two bd l1 od.1 od.2.1)).trans hd
  · exact (World.cell?_of_block (w := w) (two bu l3 ou.1 ou.2.1)).trans hbu
  · rw [cell_of_row _ _ 0 _ _ (0, 0) hN]; rfl
  · rw [cell_of_row _ _ 1 _ _ (0, 0) hN]; rfl
  · exact (World.cell?_of_block (w := w) ((three bd (by simp at l1; omega) od.2.1).trans (two bd l1 od.1 od.2.1))).trans hd
  · exact (World.cell?_of_block (w := w) ((three bn (by simp at l2; omega) on.2.1).trans (two bn l2 on.1 on.2.1))).trans hbn
  · exact (Dsk.cells (Dsk.of_block hI.dsk (three g hI.dsk.lt n1))).2.1
set_option maxRecDepth 100000 in
set_option maxHeartbeats 3200000 in
theorem ren_ok (g b bd bn bu : Nat) (m : List Ent) (t : St) (s u : ByteArray) (e : Ent) (w : World) (h : Im w g b m t) (hm : t.fs.length ≤ 1000000) (hs : okN s.data.toList = true) (hu : okN u.data.toList = true)
    (od : bd ∉ g :: b :: blks m) (on : bn ∉ g :: b :: blks m) (ou : bu ∉ g :: b :: blks m)
    (hd : w.cell? ⟨bd, 0, none⟩ = some (.pointer (some ⟨g, 0, none⟩))) (hbn : w.cell? ⟨bn, 0, none⟩ = some (.string s)) (hbu : w.cell? ⟨bu, 0, none⟩ = some (.string u)) (hf : found m s = some e) (hne : s.data.toList ≠ u.data.toList) :
    Calls Tryz.prog 136 #[.pointer (some ⟨bd, 0, none⟩), .pointer (some ⟨bn, 0, none⟩), .pointer (some ⟨bu, 0, none⟩)] w (Did w g b m (0, { t with fs := fdel s.data.toList (fput (u.data.toList, e.zs, e.s) (fdel u.data.toList t.fs)) })) := by
  have hss := size_of_ok hs
  have hus := size_of_ok hu
  obtain ⟨c0, c1, c2, c3, c4, c5, c6, c7⟩ := Dsk.cells h.dsk
  obtain ⟨A, cap, hv, _⟩ := (h.file e (get_some hf).1).form
  have hlk := look2 h.own.drew s hss
  have hlo := fun o => look2 (own_past h.own o) s hss
  have hfv : foundV m s = .agg #[.slice A e.zs.length cap, .int .i64 (e.s : Int)] := by unfold foundV; rw [hf, Option.map_some, Option.getD_some, Ent.val, hv]
  simp only [hfv, hf] at hlk hlo
  have pd := fun o => cell_past hd o
  have pn := fun o => cell_past hbn o
  have pu := fun o => cell_past hbu o
  have p1 := fun o => cell_past c1 o
  have hsn := str_neq hne
  have HMID := Lib.hid (fun w2 hI hF => ren_mid (w2 := w2) h hm hss hus hf hne hu od on ou hd hbn hbu _ _ hv rfl rfl hI hF)
  have hb : Below w.heap.size w (w.alloc (.cells #[.slice A e.zs.length cap, .int .i64 (e.s : Int)] 95)).drew := ((Below.refl _ _).alloc (Nat.le_refl _) _).drew
  have HR := Lib.hid (remove_any g b m t u _ (h.below hb) hus)
  clear h hfv hv hb
  generalize hst : ({ t with fs := fdel s.data.toList (fput (u.data.toList, e.zs, e.s) (fdel u.data.toList t.fs)) } : St) = t' at *
  clear hst
  generalize e.zs.length = n at *
  go_enter Tryz.func136, Tryz.ntmps136
  go_wp2_with fail
  go_region
  go_wp2_with (go_at_call 127; refine HR.out.mono ?_; rintro e w2 ⟨rfl, hI, hF⟩; obtain ⟨w3, w4, m1, m2, m3, m4, m5, m6, m7, m8, m9, m10, hL⟩ := HMID.out w2 hI hF; have HL := Lib.hid hL; clear hI hF hL HMID HR)
  go_region
  go_wp2_with fail
  go_region
  go_wp2
  go_ret
  exact ⟨rfl, HL.out⟩
theorem ren1_did (g b bd bn bu : Nat) (m : List Ent) (t : St) (s u : ByteArray) (w : World) (h : Im w g b m t) (hm : t.fs.length ≤ 1000000) (hs : okN s.data.toList = true) (hu : okN u.data.toList = true)
    (od : bd ∉ g :: b :: blks m) (on : bn ∉ g :: b :: blks m) (ou : bu ∉ g :: b :: blks m)
    (hd : w.cell? ⟨bd, 0, none⟩ = some (.pointer (some ⟨g, 0, none⟩))) (hbn : w.cell? ⟨bn, 0, none⟩ = some (.string s)) (hbu : w.cell? ⟨bu, 0, none⟩ = some (.string u)) :
    Calls Tryz.prog 136 #[.pointer (some ⟨bd, 0, none⟩), .pointer (some ⟨bn, 0, none⟩), .pointer (some ⟨bu, 0, none⟩)] w (Did w g b m (ren1 s.data.toList u.data.toList t)) := by
  unfold ren1
  rw [h.get]
  cases hf : found m s with
  | none => exact ren_none g b bd bn bu m t s w h (size_of_ok hs) hd hbn hf
  | some e =>
    simp only [Option.map_some]
    split
    · rename_i he
      have := nm_inj he
      subst this
      exact ren_self g b bd bn bu m t s e w h (size_of_ok hs) hd hbn hbu hf
    · rename_i hne
      exact ren_ok g b bd bn bu m t s u e w h hm hs hu od on ou hd hbn hbu hf hne
theorem ren_enters (caps : Array Value) (w : World) : (callFunc 136 caps).run Tryz.prog w = .ok (.enter 136 caps) w := enters_of Tryz.func136 (by kernel_rfl) rfl caps w
set_option maxRecDepth 100000 in
set_option maxHeartbeats 3200000 in
theorem ren_did (g b : Nat) (m : List Ent) (t : St) (s u : ByteArray) (w : World) (h : Im w g b m t) (hm : t.fs.length ≤ 1000000) :
    Calls Tryz.prog 98 #[.pointer (some ⟨g, 0, none⟩), .string s, .string u] w (Did w g b m (stRename s.data.toList u.data.toList t)) := by
  have HM := Lib.hid (mod2 _ g b ren_enters m t s u w h (ren1 s.data.toList u.data.toList) fun bd bn bu w1 hI hs hu od on ou hd hbn hbu => ren1_did g b bd bn bu m _ s u w1 hI (by rw [(chg_same t).2]; exact hm) hs hu od on ou hd hbn hbu)
  clear h
  unfold stRename
  generalize doing (okN s.data.toList && okN u.data.toList) t (ren1 s.data.toList u.data.toList) = r at *
  go_enter Tryz.func98, Tryz.ntmps98
  go_wp2_with (go_at_call 85; refine HM.out.mono ?_; rintro e w' ⟨rfl, hL⟩; have HL := Lib.hid hL; clear hL)
  go_ret
  exact ⟨rfl, HL.out⟩
end Go.Proofs.YtnppomiggajhnaaGreatDoor.Dk

namespace Go.Proofs.YtnppomiggajhnaaGreatDoor.Dk
open Go.RowKit Go.Proofs.YtnppomiggajhnaaGreatDoor.Fld

set_option maxRecDepth 100000 in
set_option maxHeartbeats 3200000 in
theorem sync_none (g b bd bn : Nat) (m : List Ent) (t : St) (s : ByteArray) (w : World) (h : Im w g b m t) (hs : s.size ≤ maxLen) (hd : w.cell? ⟨bd, 0, none⟩ = some (.pointer (some ⟨g, 0, none⟩))) (hn : w.cell? ⟨bn, 0, none⟩ = some (.string s)) (hf : found m s = none) :
    Calls Tryz.prog 91 #[.pointer (some ⟨bd, 0, none⟩), .pointer (some ⟨bn, 0, none⟩)] w (Did w g b m (2, t)) := by
  have HI := Lib.hid h
  obtain ⟨c0, c1, c2, c3, c4, c5, c6, c7⟩ := Dsk.cells h.dsk
  have hlk := look2 h.own.drew s hs
  have hlo := fun o => look2 (own_past h.own o) s hs
  have hfv : foundV m s = zeroF := by unfold foundV; rw [hf]; rfl
  simp only [hfv, hf] at hlk hlo
  unfold zeroF at hlk hlo
  have pd := fun o => cell_past hd o
  have pn := fun o => cell_past hn o
  have p1 := fun o => cell_past c1 o
  clear h hfv
  go_enter Tryz.func91, Tryz.ntmps91
  go_wp2_with fail
  go_region
  go_wp2
  go_ret
  exact ⟨rfl, m, HI.out.below (((Below.refl _ _).alloc (Nat.le_refl _) _).drew), Fr.below (((Below.refl _ _).alloc (Nat.le_refl _) _).drew), fun _ hi => .inl hi⟩
theorem sync_end {w w3 : World} {g b : Nat} {m : List Ent} {t : St} {s : ByteArray} {e : Ent} (h : Im w g b m t) (hf : found m s = some e) (o : Obj) (hturn : ((w.alloc o).drew.drew).mapTurned w3 b)
    (ho : w3.ownsMap Tryz.prog 9 R1 b (put Ent.nm ⟨s.data.toList, e.v, e.zs, e.zs.length⟩ m).length (dOf (put Ent.nm ⟨s.data.toList, e.v, e.zs, e.zs.length⟩ m))) : Left w g b m { t with fs := fput (s.data.toList, e.zs, e.zs.length) t.fs } w3 := by
  obtain ⟨he1, he2⟩ := get_some hf
  have hg : fget s.data.toList t.fs = some e.fil := by rw [h.get, hf]; rfl
  have hfr : Fr [b] w w3 := (((Fr.refl [b] w).alloc o).drew.drew).turned hturn (.inl (by simp))
  obtain ⟨n1, n2, n3⟩ := h.ne
  have hblk : ∀ a ∈ m, FileAt w3 a := fun a ha => (h.file a ha).of_block fun i hi => hfr.block i ((h.file a ha).lt hi) (by
    intro hm
    simp only [List.mem_singleton] at hm
    exact n3 (mem_blks.2 ⟨a, ha, by rw [← hm]; exact hi⟩))
  refine ⟨_, h.stored ⟨s.data.toList, e.v, e.zs, e.zs.length⟩ ?_ ho rfl (h.good.sync hg) (hblk e he1) (fun a ha _ => hblk a ha) ?_ rfl rfl, hfr.mono (by simp), ?_⟩
  · refine DskT.files (t := t) ?_ _ (total_sync h.good hg _)
    exact Dsk.of_block h.dsk (hfr.block g h.dsk.lt (by simpa using n1))
  · intro i hi
    have := apart h.nodup h.up he1 hi
    rw [he2] at this
    exact this
  · intro i hi
    obtain ⟨a, ha, hv⟩ := mem_blks.1 hi
    rcases mem_put.1 ha with rfl | ⟨ha, _⟩
    · exact .inl (mem_blks.2 ⟨e, he1, hv⟩)
    · exact .inl (mem_blks.2 ⟨a, ha, hv⟩)
set_option maxRecDepth 100000 in
set_option maxHeartbeats 3200000 in
theorem sync_ok (g b bd bn : Nat) (m : List Ent) (t : St) (s : ByteArray) (e : Ent) (w : World) (h : Im w g b m t) (hm : t.fs.length ≤ 1000000) (hs : s.size ≤ maxLen) (hd : w.cell? ⟨bd, 0, none⟩ = some (.pointer (some ⟨g, 0, none⟩))) (hn : w.cell? ⟨bn, 0, none⟩ = some (.string s)) (hf : found m s = some e) :
    Calls Tryz.prog 91 #[.pointer (some ⟨bd, 0, none⟩), .pointer (some ⟨bn, 0, none⟩)] w (Did w g b m (0, { t with fs := fput (s.data.toList, e.zs, e.zs.length) t.fs })) := by
  have HI := Lib.hid h
  obtain ⟨he1, he2⟩ := get_some hf
  have hfile := h.file e he1
  obtain ⟨A, cap, hv⟩ : ∃ A cap, e.v = .slice A e.zs.length cap := by
    rcases hfile.2.2 with ⟨hv, h0⟩ | ⟨q, cap, cur, hv, _⟩
    · exact ⟨none, 0, by rw [hv, h0]⟩
    · exact ⟨_, cap, hv⟩
  obtain ⟨c0, c1, c2, c3, c4, c5, c6, c7⟩ := Dsk.cells h.dsk
  have hlk := look2 h.own.drew s hs
  have hlo := fun o => look2 (own_past h.own o) s hs
  have hfv : foundV m s = .agg #[.slice A e.zs.length cap, .int .i64 (e.s : Int)] := by unfold foundV; rw [hf, Option.map_some, Option.getD_some, Ent.val, hv]
  simp only [hfv, hf] at hlk hlo
  have pd := fun o => cell_past hd o
  have pn := fun o => cell_past hn o
  have p1 := fun o => cell_past c1 o
  obtain ⟨w3, hup, hown3, hturn⟩ := store1 (((h.own.alloc (.cells #[.slice A e.zs.length cap, .int .i64 (e.zs.length : Int)] 95)).drew).drew) (by rw [h.len]; exact hm) s hs ⟨s.data.toList, e.v, e.zs, e.zs.length⟩ rfl
  unfold Ent.val at hup
  simp only [hv] at hup
  have HL := Lib.hid (sync_end h hf _ hturn hown3)
  clear h hfv hown3 hturn hv hfile hf he1 he2 HI
  generalize hst : ({ t with fs := fput (s.data.toList, e.zs, e.zs.length) t.fs } : St) = t' at *
  clear hst
  generalize e.zs.length = n at *
  go_enter Tryz.func91, Tryz.ntmps91
  go_wp2_with fail
  go_region
  go_wp2_with fail
  go_region
  go_wp2
  go_ret
  exact ⟨rfl, HL.out⟩

theorem sync1_did (g b bd bn : Nat) (m : List Ent) (t : St) (s : ByteArray) (w : World) (h : Im w g b m t) (hm : t.fs.length ≤ 1000000) (hs : s.size ≤ maxLen) (hd : w.cell? ⟨bd, 0, none⟩ = some (.pointer (some ⟨g, 0, none⟩))) (hn : w.cell? ⟨bn, 0, none⟩ = some (.string s)) :
    Calls Tryz.prog 91 #[.pointer (some ⟨bd, 0, none⟩), .pointer (some ⟨bn, 0, none⟩)] w (Did w g b m (sync1 s.data.toList t)) := by
  unfold sync1
  rw [h.get]
  cases hf : found m s with
  | none => exact sync_none g b bd bn m t s w h hs hd hn hf
  | some e => exact sync_ok g b bd bn m t s e w h hm hs hd hn hf
theorem sync_enters (caps : Array Value) (w : World) : (callFunc 91 caps).run Tryz.prog w = .ok (.enter 91 caps) w := enters_of Tryz.func91 (by kernel_rfl) rfl caps w
set_option maxRecDepth 100000 in
set_option maxHeartbeats 3200000 in
theorem sync_did (g b : Nat) (m : List Ent) (t : St) (s : ByteArray) (w : World) (h : Im w g b m t) (hm : t.fs.length ≤ 1000000) :
    Calls Tryz.prog 37 #[.pointer (some ⟨g, 0, none⟩), .string s] w (Did w g b m (stSync s.data.toList t)) := by
  have HI := Lib.hid h
  clear h
  go_enter Tryz.func37, Tryz.ntmps37
  have HM := Lib.hid (mod1 _ g b sync_enters m t s w HI.out (sync1 s.data.toList) fun bd bn w1 hI hs _ hd hn => sync1_did g b bd bn m _ s w1 hI (by rw [(chg_same t).2]; exact hm) hs hd hn)
  unfold stSync
  generalize doing (okN s.data.toList) t (sync1 s.data.toList) = r at *
  go_wp2_with (go_at_call 85; refine HM.out.mono ?_; rintro e w' ⟨rfl, hL⟩; have HL := Lib.hid hL; clear hL)
  go_ret
  exact ⟨rfl, HL.out⟩
end Go.Proofs.YtnppomiggajhnaaGreatDoor.Dk
