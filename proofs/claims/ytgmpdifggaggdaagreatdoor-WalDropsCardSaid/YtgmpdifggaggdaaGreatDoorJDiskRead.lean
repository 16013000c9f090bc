/-
  Several texts in one: Read and Names of the program's disk, and bytes.Clone. Conditions: the disk lies in memory as it was made (Im). What a crash leaves of a file. Conditions: the file's bytes can be read. What a crash makes of the files, one by one. Conditions: the disk lies in memory as it was made (Im). Crash of the program's disk. Conditions: the disk lies in memory as it was made (Im), keep can be read and is none of its blocks.
-/
import Derived.Test.YtgmpdifggaggdaaGreatDoorJDiskName
import Derived.Test.YtgmpdifggaggdaaGreatDoorIter
import Derived.Lib.LazyBuf
namespace Go.Proofs.YtgmpdifggaggdaaGreatDoor.Dk
open Go.RowKit Go.Proofs.YtgmpdifggaggdaaGreatDoor.Fld Go.Sort Go.Shelf Go.Maps

set_option maxHeartbeats 800000 in
theorem clone_any (A : Option Addr) (n cap : Nat) (zs : List Int) (w : World) (hr : Rd w A n zs) (hA : A = none → cap = 0) (hn : n ≤ 140737488355328) : Calls Tryz.prog 60 #[.slice A n cap] w fun e w' => ∃ v, e = .returned v ∧ Own w w' v zs := by
  have q := fun (w : World) (a : Option Addr) (l c : Nat) => run_eql_slice_nil (P := Tryz.prog) w 45 5 a l c Tryz.underlying45
  cases A with
  | none =>
    have hn0 : n = 0 := by
      rcases Nat.eq_zero_or_pos n with h0 | h0
      · exact h0
      · obtain ⟨b, off, he, _⟩ := hr.2.2.2 h0; cases he
    subst hn0
    obtain rfl : zs = [] := List.eq_nil_of_length_eq_zero hr.1
    obtain rfl := hA rfl
    clear hr hA
    go_enter Tryz.func60, Tryz.ntmps60
    go_wp2
    go_ret
    exact ⟨_, rfl, Own.nil w w (Below.refl _ _)⟩
  | some a =>
    have HR := Lib.hid hr
    have HA := Lib.hid hA
    have HO := Lib.hid (Own.made w w (Below.refl _ _))
    have HR1 := Lib.hid (HR.out.below HO.out.1)
    unfold noneBlk at HO HR1
    clear hr hA
    go_enter Tryz.func60, Tryz.ntmps60
    go_wp2_with (refine wpList_append_rd rfl _ _ rfl w _ [] rfl HO.out (some a) n cap zs rfl HA.out HR1.out (by simp; omega) ?_)
    intro v1 w1 hO1 _ _
    have HO2 := Lib.hid hO1
    clear hO1
    go_wp2
    go_ret
    exact ⟨_, rfl, HO2.out⟩

/-- what Read answers -/
def ReadIs (w : World) (r : Int × List Int) (e : Ending) (w' : World) : Prop := ∃ A n cap, e = .returned (.tuple #[.slice A n cap, .int .i64 r.1]) ∧ Sl w' A n cap r.2 ∧ n ≤ 16777216 ∧ Below w.heap.size w w'
set_option maxRecDepth 100000 in
set_option maxHeartbeats 3200000 in
theorem read_any (g b : Nat) (m : List Ent) (t : St) (s : ByteArray) (w : World) (h : Im w g b m t) : Calls Tryz.prog 39 #[.pointer (some ⟨g, 0, none⟩), .string s] w (ReadIs w (stRead s.data.toList t)) := by
  obtain ⟨c0, c1, c2, c3, c4, c5, c6, c7⟩ := Dsk.cells h.dsk
  have HI := Lib.hid h
  have hst : stRead s.data.toList t = if t.off then ((5 : Int), []) else if okN s.data.toList then (match found m s with | some e => ((0 : Int), e.zs) | none => (2, [])) else (1, []) := by
    unfold stRead
    rw [h.get]
    cases found m s <;> rfl
  rw [hst]
  clear h hst
  cases hoff : t.off with
  | true =>
    rw [hoff] at c3
    rw [if_pos rfl]
    go_enter Tryz.func39, Tryz.ntmps39
    go_wp2
    go_ret2
    exact ⟨none, 0, 0, rfl, Sl.nil w, by omega, Below.refl _ _⟩
  | false =>
    rw [hoff] at c3
    rw [if_neg (by simp)]
    have hb1 : Below w.heap.size w (w.alloc (.cells #[.string s] 9)) := (Below.refl _ _).alloc (Nat.le_refl _) _
    have HB1 := Lib.hid hb1
    have HV := Lib.hid (valid_any _ 1 1 [s] _ (rds_one w s))
    rw [allN_one] at HV
    cases hok : okN s.data.toList with
    | false =>
      rw [hok] at HV
      rw [if_neg (by simp)]
      clear hb1
      go_enter Tryz.func39, Tryz.ntmps39
      go_wp2_with (go_at_call 67; refine HV.out.mono ?_; rintro e w' ⟨rfl, rfl⟩)
      go_ret2
      exact ⟨none, 0, 0, rfl, Sl.nil _, by omega, HB1.out⟩
    | true =>
      rw [hok] at HV
      rw [if_pos rfl]
      have hs := size_of_ok hok
      have hlk := look2 (own_of_block HI.out.own (hb1.block b HI.out.own.lt)) s hs
      have p1 := cell_past c1 (.cells #[.string s] 9)
      clear hb1
      cases hf : found m s with
      | none =>
        have hfv : foundV m s = zeroF := by unfold foundV; rw [hf]; rfl
        rw [hfv, hf] at hlk
        unfold zeroF at hlk
        clear hfv
        have hb2 : ∀ o, Below w.heap.size w ((w.alloc (.cells #[.string s] 9)).alloc o) := fun o => HB1.out.alloc (by simp) o
        have HB2 := Lib.hid hb2
        clear hb2
        go_enter Tryz.func39, Tryz.ntmps39
        go_wp2_with (go_at_call 67; refine HV.out.mono ?_; rintro e w' ⟨rfl, rfl⟩)
        go_ret2
        exact ⟨none, 0, 0, rfl, Sl.nil _, by omega, HB2.out _⟩
      | some e =>
        have hfile := HI.out.file e (get_some hf).1
        obtain ⟨A, cap, hv, hsl⟩ := hfile.form
        have hfv : foundV m s = .agg #[.slice A e.zs.length cap, .int .i64 (e.s : Int)] := by unfold foundV; rw [hf, Option.map_some, Option.getD_some, Ent.val, hv]
        rw [hfv, hf] at hlk
        have hb2 : Below w.heap.size w ((w.alloc (.cells #[.string s] 9)).alloc (.cells #[.slice A e.zs.length cap, .int .i64 (e.s : Int)] 77)) := HB1.out.alloc (by simp) _
        have hl : e.zs.length ≤ 16777216 := by
          have h1 := total_del (f := e.fil) HI.out.good.up (x := s.data.toList) (by rw [HI.out.get, hf]; rfl)
          have h2 := HI.out.good.fits
          have h3 := HI.out.good.room2
          have h4 : e.fil.2.1.length = e.zs.length := rfl
          omega
        have HCL := Lib.hid (clone_any A e.zs.length cap e.zs _ (hsl.1.below hb2) hsl.2.2.2.1 (by omega))
        have HB2 := Lib.hid hb2
        clear hb2 hfv hsl hv hfile
        simp only
        generalize hn : e.zs.length = n at *
        have HN := Lib.hid hn
        clear hn
        go_enter Tryz.func39, Tryz.ntmps39
        go_wp2_with (first | (go_at_call 67; refine HV.out.mono ?_; rintro e w' ⟨rfl, rfl⟩) | (go_at_call 60; refine HCL.out.mono ?_; rintro e w' ⟨v, rfl, hO⟩; have HO := Lib.hid hO; clear hO))
        go_ret2
        obtain ⟨A2, cap2, hv2, hs2, _⟩ := HO.out.sl n HN.out
        subst hv2
        exact ⟨A2, n, cap2, rfl, hs2, hl, HB2.out.trans (HO.out.1.mono HB2.out.size)⟩

theorem rds_of_row {w : World} {base : Nat} {v : Value} {xs : List Nm} (hl : xs.length ≤ 1000000000) (h : w.ownsRow base 9 1 v xs.length (xs.map encStr)) : ∃ A cap, v = .slice A xs.length cap ∧ RdS w A xs.length (xs.map fun x => ⟨x.toArray⟩) ∧ xs.length ≤ cap ∧ (A = none → cap = 0) ∧ ∀ a, A = some a → base ≤ a.block ∧ a.block < w.heap.size := by
  obtain ⟨h1, h⟩ := h
  rcases h with ⟨rfl, h0⟩ | ⟨q, cap, cur, rfl, hg, hh, hnc, hcm, hcs, hcu⟩
  · refine ⟨none, 0, by rw [h0], ⟨by simp, hl, fun hp => by omega⟩, by omega, fun _ => rfl, fun a ha => by cases ha⟩
  · refine ⟨_, cap, rfl, ⟨by simp, hl, fun hp => ⟨q, 0, rfl, fun i hi => ?_⟩⟩, hnc, (fun h => by cases h), (fun a ha => by injection ha with ha; subst ha; exact ⟨hg, (Array.getElem?_eq_some_iff.1 hh).1⟩)⟩
    rw [Nat.zero_add, cell_of_row w q i cur _ (0, 0) hh]
    have : (cur.toList.take (xs.length * 1))[i]? = (xs.map encStr)[i]? := by rw [hcu]
    rw [List.getElem?_take, if_pos (by omega), Array.getElem?_toList] at this
    rw [this, List.getElem?_map, List.getD_eq_getElem?_getD, List.getElem?_map, List.getElem?_eq_getElem hi]
    rfl
/-- what Names answers -/
def NamesAre (w : World) (m : List Ent) (e : Ending) (w' : World) : Prop := ∃ A cap, e = .returned (.slice A m.length cap) ∧ RdS w' A m.length (m.map fun e => ⟨e.nm.toArray⟩) ∧ (∀ a, A = some a → w.heap.size ≤ a.block ∧ a.block < w'.heap.size) ∧ Below w.heap.size w w'
set_option maxHeartbeats 1000000 in
theorem names_any (g b : Nat) (m : List Ent) (t : St) (w : World) (h : Im w g b m t) (hm : t.fs.length ≤ 1000000) : Calls Tryz.prog 13 #[.pointer (some ⟨g, 0, none⟩)] w (NamesAre w m) := by
  have hml : m.length ≤ 1000000 := by rw [h.len]; exact hm
  obtain ⟨c0, c1, c2, c3, c4, c5, c6, c7⟩ := Dsk.cells h.dsk
  have hown := h.own
  have hup := h.up
  refine (callsIn_wide (n := 6)).1 ?_
  have hfK : Fence.wide.fn 35 := trivial
  have hfS : Fence.wide.fn 34 := trivial
  have HS := Lib.hid (Tryz.slices_Sorted_keys_34_35 b m.length (dOf m) R1 w hown (by rw [dOf_size]; unfold maxLen; omega) (by rw [dOf_size]; omega))
  clear h hown
  refine callsIn_of_wp Tryz.func13 rfl trivial ?_ rfl
  simp only [Tryz.ntmps13, List.size_toArray, List.length_cons, List.length_nil, Nat.reduceAdd, Nat.reduceSub, Array.replicate_succ, Array.replicate_zero, List.push_toArray, List.append_toArray, List.nil_append, List.cons_append]
  gi_wp2_with (first
    | (gi_at_call 35; refine (Tryz.maps_Keys_35 _ _).mono ?_; rintro e w' ⟨rfl, rfl⟩)
    | (gi_at_call 34; refine HS.out.mono ?_; rintro e w' ⟨v, ss, rfl, hS, hrow, hnil, hb⟩))
  go_ret
  have e1 : ss.mergeSort (fun x y => decide (x ≤ y)) = m.map Ent.nm := by
    rw [dOf_keys] at hS
    exact (mergeSort_of_perm hS).trans (sorted_keys hup)
  have e2 : ss.length = (m.map Ent.nm).length := by rw [← e1]; simp
  rw [e1, e2] at hrow
  obtain ⟨A, cap, hv, hr, _, _, hbl⟩ := rds_of_row (by simp; omega) hrow
  subst hv
  have hl : (m.map Ent.nm).length = m.length := by simp
  rw [hl] at hr
  have hbw : Below w.heap.size w (w.alloc (.cells #[.map (some b)] 50)) := (Below.refl _ w).alloc (Nat.le_refl _) _
  refine ⟨A, cap, by simp [hl], by rw [List.map_map] at hr; exact hr, fun a ha => ⟨Nat.le_trans hbw.size (hbl a ha).1, (hbl a ha).2⟩, hbw.trans (hb.mono hbw.size)⟩
end Go.Proofs.YtgmpdifggaggdaaGreatDoor.Dk

namespace Go.Proofs.YtgmpdifggaggdaaGreatDoor.Dk
open Go.RowKit Go.Proofs.YtgmpdifggaggdaaGreatDoor.Fld

def nstay (k : Int) (n s : Nat) : Nat := s + (min (max k 0) ((n - s : Nat) : Int)).toNat
theorem own_set {w0 w : World} {v : Value} {zs : List Int} (h : Own w0 w v zs) (p : Addr) (hp : w0.heap.size ≤ p.block) (hv : v.ownBlock ≠ some p.block) (u : Value) : Own w0 (w.setCell p u) v zs := by
  obtain ⟨hb, hby, hl, h⟩ := h
  refine ⟨hb.setCell hp _, hby, hl, ?_⟩
  rcases h with h | ⟨q, cap, cur, rfl, hg, hh, r⟩
  · exact .inl h
  · exact .inr ⟨q, cap, cur, rfl, hg, (Below.heap_setCell _ _ _ _ (by intro e; apply hv; rw [e]; rfl)).trans hh, r⟩
theorem own_ge {w0 w : World} {v : Value} {zs : List Int} (h : Own w0 w v zs) {i : Nat} (hi : v.ownBlock = some i) : w0.heap.size ≤ i := by
  rcases h.2.2.2 with ⟨rfl, _⟩ | ⟨q, cap, cur, rfl, hg, _⟩
  · cases hi
  · cases hi; exact hg
end Go.Proofs.YtgmpdifggaggdaaGreatDoor.Dk

namespace Go.Proofs.YtgmpdifggaggdaaGreatDoor.Dk
open Go.RowKit Go.Proofs.YtgmpdifggaggdaaGreatDoor.Fld

theorem nstay_le {k : Int} {n s : Nat} (h : s ≤ n) : nstay k n s ≤ n := by unfold nstay; omega
theorem Good.crash1 {t : St} (h : Good t) {x : Nm} {f : Fil} (hg : fget x t.fs = some f) (E : Nat) (hE : E ≤ f.2.1.length) : Good { t with fs := fput (x, f.2.1.take E, E) t.fs } ∧ total (fput (x, f.2.1.take E, E) t.fs) + (f.2.1.length - E) = total t.fs := by
  obtain ⟨h1, h2⟩ := get_some hg
  have ht : total (fput (x, f.2.1.take E, E) t.fs) + (f.2.1.length - E) = total t.fs := by
    rw [total_put]
    have := total_del h.up hg
    simp only [List.length_take]
    omega
  refine ⟨h.put (x, f.2.1.take E, E) (by rw [← h2]; exact h.name f h1) (by simp; omega) (fun c hc => h.byte f h1 c (List.mem_of_mem_take hc)) ?_, ht⟩
  have := h.fits
  omega
/-- memory behind one round -/
theorem crash_mid {wr w' : World} {g b : Nat} {m : List Ent} {t : St} {s : ByteArray} {e : Ent} (h : Im wr g b m t) (hm : t.fs.length ≤ 1000000) (hs : s.size ≤ maxLen) (hf : found m s = some e) (E : Nat) (hE : E ≤ e.zs.length) (v : Value) (hO : Own wr w' v (e.zs.take E)) :
    ∃ (T2 : Nat) (W4 : World), T2 + (e.zs.length - E) = total t.fs ∧
      (Instr.mapUpdate 50 (.map (some b)) (.string s) (.agg #[v, .int .i64 (E : Int)])).run Tryz.prog (((w'.setCell ⟨g, 2, none⟩ (.int .i64 (T2 : Int))).alloc (.cells #[v, .int .i64 (E : Int)] 77)).drew.drew) = .ok () W4 ∧
      Left wr g b m { t with fs := fput (s.data.toList, e.zs.take E, E) t.fs } W4 ∧ Fr (g :: b :: []) wr W4 := by
  obtain ⟨n1, n2, n3⟩ := h.ne
  obtain ⟨he1, he2⟩ := get_some hf
  have hg : fget s.data.toList t.fs = some e.fil := by rw [h.get, hf]; rfl
  obtain ⟨hgood, htot⟩ := h.good.crash1 hg E hE
  have hI := h.below hO.1
  refine ⟨total (fput (s.data.toList, e.zs.take E, E) t.fs), ?_⟩
  obtain ⟨T2, hT2⟩ : ∃ T2, T2 = total (fput (s.data.toList, e.zs.take E, E) t.fs) := ⟨_, rfl⟩
  rw [← hT2]
  have hown3 : (((w'.setCell ⟨g, 2, none⟩ (.int .i64 (T2 : Int))).alloc (.cells #[v, .int .i64 (E : Int)] 77)).drew.drew).ownsMap Tryz.prog 9 R1 b m.length (dOf m) := (((hI.own.setCell (a := ⟨g, 2, none⟩) (Ne.symm n1) _).alloc _).drew).drew
  obtain ⟨W4, hup, hown4, hturn⟩ := store1 hown3 (by rw [h.len]; exact hm) s hs ⟨s.data.toList, v, e.zs.take E, E⟩ rfl
  have hsz : w'.heap.size ≤ (((w'.setCell ⟨g, 2, none⟩ (.int .i64 (T2 : Int))).alloc (.cells #[v, .int .i64 (E : Int)] 77)).drew.drew).heap.size := by
    show w'.heap.size ≤ ((w'.setCell ⟨g, 2, none⟩ (.int .i64 (T2 : Int))).alloc _).heap.size
    rw [size_up]
    simp [World.setCell]
  have late : ∀ i, i < w'.heap.size → i ≠ g → i ≠ b → W4.heap[i]? = w'.heap[i]? := by
    intro i hi h1 h2
    rw [hturn.grown.block i (by omega) (by simpa using h2)]
    show ((w'.setCell ⟨g, 2, none⟩ (.int .i64 (T2 : Int))).alloc _).heap[i]? = _
    rw [Below.heap_alloc _ _ _ (by simpa [World.setCell] using hi), Below.heap_setCell _ _ _ _ h1]
  have hD : Dsk W4 g (t.room : Int) b (T2 : Int) t.off t.fail.isSome ((t.fail.getD 0 : Nat) : Int) t.arm.isSome ((t.arm.getD 0 : Nat) : Int) := by
    refine Dsk.of_block (Dsk.set2 hI.dsk (T2 : Int)) ?_
    rw [hturn.grown.block g (by have := hI.dsk.lt; omega) (by simpa using n1)]
    show ((w'.setCell ⟨g, 2, none⟩ (.int .i64 (T2 : Int))).alloc _).heap[g]? = _
    exact Below.heap_alloc _ _ _ (by have := hI.dsk.lt; simpa [World.setCell] using this)
  have hfr : Fr [g, b] wr W4 := by
    refine ⟨?_, ?_, ?_, ?_, ?_⟩
    · exact hturn.grown.os.trans hO.1.os
    · exact hturn.grown.tape.trans hO.1.tape
    · exact hturn.grown.output.trans hO.1.output
    · exact Nat.le_trans hO.1.size (Nat.le_trans hsz hturn.grown.size)
    · intro k hk hn
      simp only [List.mem_cons, List.not_mem_nil, or_false, not_or] at hn
      rw [late k (Nat.lt_of_lt_of_le hk hO.1.size) hn.1 hn.2, hO.1.block k hk]
  have hvb : ∀ i, v.ownBlock = some i → wr.heap.size ≤ i ∧ i < w'.heap.size := by
    intro i hi
    refine ⟨own_ge hO hi, ?_⟩
    rcases hO.2.2.2 with ⟨hv, _⟩ | ⟨q, cap, cur, hv, _, hq, _⟩
    · rw [hv] at hi; cases hi
    · rw [hv] at hi; cases hi; exact (Array.getElem?_eq_some_iff.1 hq).1
  have hlt := h.lt
  refine ⟨W4, by rw [hT2]; exact htot, hup, ⟨_, h.stored ⟨s.data.toList, v, e.zs.take E, E⟩ ?_ hown4 rfl hgood ?_ ?_ ?_ rfl rfl, hfr.mono (by simp), ?_⟩, hfr⟩
  · unfold DskT
    simp only [← hT2]
    exact hD
  · refine (show FileAt w' ⟨s.data.toList, v, e.zs.take E, E⟩ from ⟨hO.2.1, hO.2.2.1, ?_⟩).of_block fun i hi => ?_
    · rcases hO.2.2.2 with h | ⟨q, cap, cur, hv, hg, r⟩
      · exact .inl h
      · exact .inr ⟨q, cap, cur, hv, Nat.zero_le _, r⟩
    · obtain ⟨h1, h2⟩ := hvb i hi
      exact late i h2 (by have := hlt g (by simp); omega) (by have := hlt b (by simp); omega)
  · intro a ha _
    refine (h.file a ha).of_block fun i hi => ?_
    have hib : i ∈ blks m := mem_blks.2 ⟨a, ha, hi⟩
    exact hfr.block i ((h.file a ha).lt hi) (by
      simp only [List.mem_cons, List.not_mem_nil, or_false, not_or]
      exact ⟨fun e => n2 (e ▸ hib), fun e => n3 (e ▸ hib)⟩)
  · intro i hi hm
    obtain ⟨h1, _⟩ := hvb i hi
    have : i < wr.heap.size := hlt i (by
      simp only [List.mem_cons] at hm ⊢
      rcases hm with hm | hm | hm
      · exact .inl hm
      · exact .inr (.inl hm)
      · exact .inr (.inr (blks_del hm)))
    omega
  · intro i hi
    obtain ⟨a, ha, hv⟩ := mem_blks.1 hi
    rcases mem_put.1 ha with rfl | ⟨ha, _⟩
    · exact .inr (hvb i hv).1
    · exact .inl (mem_blks.2 ⟨a, ha, hv⟩)

/-! ### the files, one by one -/
theorem crashTo_len (i : Nat) (ks : List Int) (fs : List Fil) : (crashTo i ks fs).length = fs.length := by simp [crashTo]
theorem crashTo_at (i : Nat) (ks : List Int) (fs : List Fil) (j : Nat) : (crashTo i ks fs)[j]? = (fs[j]?).map fun f => if j < i then crash1 (ks.getD j 0) f else f := by
  unfold crashTo
  rw [List.getElem?_mapIdx]
theorem crashTo_zero (ks : List Int) (fs : List Fil) : crashTo 0 ks fs = fs := by
  apply List.ext_getElem?
  intro j
  rw [crashTo_at]
  cases fs[j]? <;> simp
theorem crashTo_key (i : Nat) (ks : List Int) (fs : List Fil) (j : Nat) : (crashTo i ks fs)[j]?.map Prod.fst = fs[j]?.map Prod.fst := by
  rw [crashTo_at]
  cases fs[j]? with
  | none => rfl
  | some f =>
    simp only [Option.map_some]
    split <;> rfl
theorem crash_step (k : Nat) (ks : List Int) (fs : List Fil) (h : Up Prod.fst (crashTo k ks fs)) (f : Fil) (hf : fs[k]? = some f) : crashTo (k + 1) ks fs = fput (crash1 (ks.getD k 0) f) (crashTo k ks fs) := by
  have hk : k < fs.length := (List.getElem?_eq_some_iff.1 hf).1
  have hk2 : k < (crashTo k ks fs).length := by rw [crashTo_len]; exact hk
  have hat : (crashTo k ks fs)[k]? = some f := by rw [crashTo_at, hf]; simp
  have hat2 : (crashTo k ks fs)[k] = f := by rw [List.getElem?_eq_getElem hk2] at hat; exact Option.some.inj hat
  have := put_at h (crash1 (ks.getD k 0) f) k hk2 (by rw [hat2]; rfl)
  unfold fput
  rw [this]
  apply List.ext_getElem?
  intro j
  rw [crashTo_at, List.getElem?_set, crashTo_at]
  by_cases hj : k = j
  · subst hj
    rw [if_pos rfl, if_pos hk2, hf]
    simp
  · rw [if_neg hj]
    cases fs[j]? with
    | none => rfl
    | some f2 =>
      simp only [Option.map_some]
      congr 1
      by_cases h1 : j < k
      · rw [if_pos h1, if_pos (by omega)]
      · rw [if_neg h1, if_neg (by omega)]
/-- a slice of integers -/
def RdI (w : World) (A : Option Addr) (n : Nat) (ks : List Int) : Prop :=
  ks.length = n ∧ n ≤ maxLen ∧ (0 < n → ∃ b off, A = some ⟨b, off, none⟩ ∧ ∀ i, i < n → w.cell? ⟨b, off + i, none⟩ = some (.int .i64 (ks.getD i 0)))
theorem RdI.fr {S : List Nat} {w w' : World} {A : Option Addr} {n : Nat} {ks : List Int} (h : RdI w A n ks) (hf : Fr S w w') (hS : 0 < n → ∀ a, A = some a → a.block ∉ S) : RdI w' A n ks := by
  obtain ⟨h1, h2, h3⟩ := h
  refine ⟨h1, h2, fun hn => ?_⟩
  obtain ⟨b, off, rfl, hc⟩ := h3 hn
  exact ⟨b, off, rfl, fun i hi => hf.cell (hc i hi) (hS hn ⟨b, off, none⟩ rfl)⟩
theorem RdS.fr {S : List Nat} {w w' : World} {A : Option Addr} {n : Nat} {ks : List ByteArray} (h : RdS w A n ks) (hf : Fr S w w') (hS : ∀ a, A = some a → a.block ∉ S) : RdS w' A n ks := by
  obtain ⟨h1, h2, h3⟩ := h
  refine ⟨h1, h2, fun hn => ?_⟩
  obtain ⟨b, off, rfl, hc⟩ := h3 hn
  exact ⟨b, off, rfl, fun i hi => hf.cell (hc i hi) (hS ⟨b, off, none⟩ rfl)⟩
theorem Left.trans {w w1 w2 : World} {g b : Nat} {m m1 : List Ent} {t2 : St} (hf : Fr (g :: b :: blks m) w w1) (hb : ∀ i ∈ blks m1, i ∈ blks m ∨ w.heap.size ≤ i) (h2 : Left w1 g b m1 t2 w2) : Left w g b m t2 w2 := by
  obtain ⟨m2, hI, hf2, hb2⟩ := h2
  refine ⟨m2, hI, hf.trans hf2 ?_, ?_⟩
  · intro i hi
    simp only [List.mem_cons] at hi ⊢
    rcases hi with hi | hi | hi
    · exact .inl (.inl hi)
    · exact .inl (.inr (.inl hi))
    · rcases hb i hi with h | h
      · exact .inl (.inr (.inr h))
      · exact .inr h
  · intro i hi
    rcases hb2 i hi with h | h
    · exact hb i h
    · exact .inr (Nat.le_trans hf.size h)
theorem Im.restart {w : World} {g b : Nat} {m : List Ent} {t : St} (h : Im w g b m t) :
    Im (((((w.setCell ⟨g, 3, none⟩ (.bool false)).setCell ⟨g, 4, none⟩ (.bool false)).setCell ⟨g, 5, none⟩ (.int .i64 0)).setCell ⟨g, 6, none⟩ (.bool false)).setCell ⟨g, 7, none⟩ (.int .i64 0)) g b m { t with off := false, fail := none, arm := none } ∧
    Fr [g] w (((((w.setCell ⟨g, 3, none⟩ (.bool false)).setCell ⟨g, 4, none⟩ (.bool false)).setCell ⟨g, 5, none⟩ (.int .i64 0)).setCell ⟨g, 6, none⟩ (.bool false)).setCell ⟨g, 7, none⟩ (.int .i64 0)) := by
  have hf : Fr [g] w (((((w.setCell ⟨g, 3, none⟩ (.bool false)).setCell ⟨g, 4, none⟩ (.bool false)).setCell ⟨g, 5, none⟩ (.int .i64 0)).setCell ⟨g, 6, none⟩ (.bool false)).setCell ⟨g, 7, none⟩ (.int .i64 0)) :=
    (((((Fr.refl [g] w).setCell _ (.inl (by simp)) _).setCell _ (.inl (by simp)) _).setCell _ (.inl (by simp)) _).setCell _ (.inl (by simp)) _).setCell _ (.inl (by simp)) _
  obtain ⟨n1, n2, n3⟩ := h.ne
  refine ⟨⟨((((Dsk.set3 h.dsk false).set4 false).set5 0).set6 false).set7 0, own_of_block h.own (hf.block b h.own.lt (by simpa using Ne.symm n1)), h.fs, fun e he => (h.file e he).of_block fun i hi => hf.block i ((h.file e he).lt hi) (by
    intro hm
    simp only [List.mem_singleton] at hm
    exact n2 (mem_blks.2 ⟨e, he, by rw [← hm]; exact hi⟩)), h.nodup, ⟨h.good.1, h.good.2, h.good.3, h.good.4, h.good.5, h.good.6, h.good.7⟩, (fun k hk => by cases hk), (fun k hk => by cases hk)⟩, hf⟩
end Go.Proofs.YtgmpdifggaggdaaGreatDoor.Dk

namespace Go.Proofs.YtgmpdifggaggdaaGreatDoor.Dk
open Go.RowKit Go.Proofs.YtgmpdifggaggdaaGreatDoor.Fld

def CrR (w1 : World) (g b : Nat) (m : List Ent) (t : St) (ks : List Int) (i : Value) (wr : World) : Prop := ∃ k : Nat, k ≤ m.length ∧ i = .int .i64 (k : Int) ∧ Left w1 g b m { t with fs := crashTo k ks t.fs } wr
/-- the entry of a round -/
theorem crash_ent {wr w1 : World} {g b : Nat} {m m' : List Ent} {t : St} {ks : List Int} {k : Nat} (h : Im w1 g b m t) (h' : Im wr g b m' { t with fs := crashTo k ks t.fs }) (hk : k < m.length) :
    ∃ e f, found m' ((m.map fun e => (⟨e.nm.toArray⟩ : ByteArray)).getD k ⟨#[]⟩) = some e ∧ t.fs[k]? = some f ∧ e.fil = f ∧ ((m.map fun e => (⟨e.nm.toArray⟩ : ByteArray)).getD k ⟨#[]⟩).data.toList = f.1 := by
  have hkl : k < t.fs.length := by rw [← h.len]; exact hk
  obtain ⟨f, hf⟩ : ∃ f, t.fs[k]? = some f := ⟨_, List.getElem?_eq_getElem hkl⟩
  have hk' : k < m'.length := by rw [h'.len]; simp only [crashTo_len]; exact hkl
  have hef : (m'[k]).fil = f := by
    have h1 : (m'.map Ent.fil)[k]? = some f := by
      rw [← h'.fs]
      show (crashTo k ks t.fs)[k]? = _
      rw [crashTo_at, hf]
      simp
    rw [List.getElem?_map, List.getElem?_eq_getElem hk', Option.map_some] at h1
    exact Option.some.inj h1
  have hnm : ((m.map fun e => (⟨e.nm.toArray⟩ : ByteArray)).getD k ⟨#[]⟩).data.toList = f.1 := by
    have h1 : (m.map Ent.fil)[k]? = some f := by rw [← h.fs]; exact hf
    rw [List.getElem?_map, List.getElem?_eq_getElem hk, Option.map_some] at h1
    have h2 := Option.some.inj h1
    rw [List.getD_eq_getElem?_getD, List.getElem?_map, List.getElem?_eq_getElem hk, Option.map_some, Option.getD_some]
    rw [← h2]
    rfl
  refine ⟨m'[k], f, ?_, hf, hef, hnm⟩
  unfold found
  rw [hnm, ← hef]
  exact get_mem h'.up (List.getElem_mem hk')
theorem wrap64_in (x : Int) (h1 : -1000000000 ≤ x) (h2 : x ≤ 1000000000) : wrap64 x = x := by unfold wrap64; omega
end Go.Proofs.YtgmpdifggaggdaaGreatDoor.Dk
