/-
  Read and Names of the program's disk, and bytes.Clone. Conditions: the disk lies in memory as it was made (Im).
-/
import Derived.Test.YtejphnbhcabchaaGreatDiskUnl
import Derived.Test.YtejphnbhcabchaaGreatIter
import Derived.Lib.LazyBuf
namespace Go.Proofs.YtejphnbhcabchaaGreat.Dk
open Go.RowKit Go.Proofs.YtejphnbhcabchaaGreat.Fld Go.Sort Go.Shelf Go.Maps

set_option maxHeartbeats 800000 in
theorem clone_any (A : Option Addr) (n cap : Nat) (zs : List Int) (w : World) (hr : Rd w A n zs) (hA : A = none → cap = 0) (hn : n ≤ 140737488355328) : Calls Tryz.prog 83 #[.slice A n cap] w fun e w' => ∃ v, e = .returned v ∧ Own w w' v zs := by
  have q := fun (w : World) (a : Option Addr) (l c : Nat) => run_eql_slice_nil (P := Tryz.prog) w 36 5 a l c Tryz.underlying36
  cases A with
  | none =>
    have hn0 : n = 0 := by
      rcases Nat.eq_zero_or_pos n with h0 | h0
      · exact h0
      · obtain ⟨b, off, he, _⟩ := hr.2.2.2 h0; cases he
    subst hn0
    obtain rfl : zs = [] := List.eq_nil_of_length_eq_zero hr.1
    obtain rfl := hA rfl
    clear hr hA
    go_enter Tryz.func83, Tryz.ntmps83
    go_wp2
    go_ret
    exact ⟨_, rfl, Own.nil w w (Below.refl _ _)⟩
  | some a =>
    have HR := Lib.hid hr
    have HA := Lib.hid hA
    have HO := Lib.hid (Own.made w w (Below.refl _ _))
    have HR1 := Lib.hid (HR.out.below HO.out.1)
    unfold noneBlk at HO HR1
    clear hr hA
    go_enter Tryz.func83, Tryz.ntmps83
    go_wp2_with (refine wpList_append_rd rfl _ _ rfl w _ [] rfl HO.out (some a) n cap zs rfl HA.out HR1.out (by simp; omega) ?_)
    intro v1 w1 hO1 _ _
    have HO2 := Lib.hid hO1
    clear hO1
    go_wp2
    go_ret
    exact ⟨_, rfl, HO2.out⟩

/-- what Read answers -/
def ReadIs (w : World) (r : Int × List Int) (e : Ending) (w' : World) : Prop := ∃ A n cap, e = .returned (.tuple #[.slice A n cap, .int .i64 r.1]) ∧ Sl w' A n cap r.2 ∧ n ≤ 16777216 ∧ Below w.heap.size w w'
set_option maxRecDepth 100000 in
set_option maxHeartbeats 3200000 in
theorem read_any (g b : Nat) (m : List Ent) (t : St) (s : ByteArray) (w : World) (h : Im w g b m t) : Calls Tryz.prog 87 #[.pointer (some ⟨g, 0, none⟩), .string s] w (ReadIs w (stRead s.data.toList t)) := by
  obtain ⟨c0, c1, c2, c3, c4, c5, c6, c7⟩ := Dsk.cells h.dsk
  have HI := Lib.hid h
  have hst : stRead s.data.toList t = if t.off then ((5 : Int), []) else if okN s.data.toList then (match found m s with | some e => ((0 : Int), e.zs) | none => (2, [])) else (1, []) := by
    unfold stRead
    rw [h.get]
    cases found m s <;> rfl
  rw [hst]
  clear h hst
  cases hoff : t.off with
  | true =>
    rw [hoff] at c3
    rw [if_pos rfl]
    go_enter Tryz.func87, Tryz.ntmps87
    go_wp2
    go_ret2
    exact ⟨none, 0, 0, rfl, Sl.nil w, by omega, Below.refl _ _⟩
  | false =>
    rw [hoff] at c3
    rw [if_neg (by simp)]
    have hb1 : Below w.heap.size w (w.alloc (.cells #[.string s] 9)) := (Below.refl _ _).alloc (Nat.le_refl _) _
    have HB1 := Lib.hid hb1
    have HV := Lib.hid (valid_any _ 1 1 [s] _ (rds_one w s))
    rw [allN_one] at HV
    cases hok : okN s.data.toList with
    | false =>
      rw [hok] at HV
      rw [if_neg (by simp)]
      clear hb1
      go_enter Tryz.func87, Tryz.ntmps87
      go_wp2_with (go_at_call 84; refine HV.out.mono ?_; rintro e w' ⟨rfl, rfl⟩)
      go_ret2
      exact ⟨none, 0, 0, rfl, Sl.nil _, by omega, HB1.out⟩
    | true =>
      rw [hok] at HV
      rw [if_pos rfl]
      have hs := size_of_ok hok
      have hlk := look2 (own_of_block HI.out.own (hb1.block b HI.out.own.lt)) s hs
      have p1 := cell_past c1 (.cells #[.string s] 9)
      clear hb1
      cases hf : found m s with
      | none =>
        have hfv : foundV m s = zeroF := by unfold foundV; rw [hf]; rfl
        rw [hfv, hf] at hlk
        unfold zeroF at hlk
        clear hfv
        have hb2 : ∀ o, Below w.heap.size w ((w.alloc (.cells #[.string s] 9)).alloc o) := fun o => HB1.out.alloc (by simp) o
        have HB2 := Lib.hid hb2
        clear hb2
        go_enter Tryz.func87, Tryz.ntmps87
        go_wp2_with (go_at_call 84; refine HV.out.mono ?_; rintro e w' ⟨rfl, rfl⟩)
        go_ret2
        exact ⟨none, 0, 0, rfl, Sl.nil _, by omega, HB2.out _⟩
      | some e =>
        have hfile := HI.out.file e (get_some hf).1
        obtain ⟨A, cap, hv, hsl⟩ := hfile.form
        have hfv : foundV m s = .agg #[.slice A e.zs.length cap, .int .i64 (e.s : Int)] := by unfold foundV; rw [hf, Option.map_some, Option.getD_some, Ent.val, hv]
        rw [hfv, hf] at hlk
        have hb2 : Below w.heap.size w ((w.alloc (.cells #[.string s] 9)).alloc (.cells #[.slice A e.zs.length cap, .int .i64 (e.s : Int)] 82)) := HB1.out.alloc (by simp) _
        have hl : e.zs.length ≤ 16777216 := by
          have h1 := total_del (f := e.fil) HI.out.good.up (x := s.data.toList) (by rw [HI.out.get, hf]; rfl)
          have h2 := HI.out.good.fits
          have h3 := HI.out.good.room2
          have h4 : e.fil.2.1.length = e.zs.length := rfl
          omega
        have HCL := Lib.hid (clone_any A e.zs.length cap e.zs _ (hsl.1.below hb2) hsl.2.2.2.1 (by omega))
        have HB2 := Lib.hid hb2
        clear hb2 hfv hsl hv hfile
        simp only
        generalize hn : e.zs.length = n at *
        have HN := Lib.hid hn
        clear hn
        go_enter Tryz.func87, Tryz.ntmps87
        go_wp2_with (first | (go_at_call 84; refine HV.out.mono ?_; rintro e w' ⟨rfl, rfl⟩) | (go_at_call 83; refine HCL.out.mono ?_; rintro e w' ⟨v, rfl, hO⟩; have HO := Lib.hid hO; clear hO))
        go_ret2
        obtain ⟨A2, cap2, hv2, hs2, _⟩ := HO.out.sl n HN.out
        subst hv2
        exact ⟨A2, n, cap2, rfl, hs2, hl, HB2.out.trans (HO.out.1.mono HB2.out.size)⟩

theorem rds_of_row {w : World} {base : Nat} {v : Value} {xs : List Nm} (hl : xs.length ≤ 1000000000) (h : w.ownsRow base 9 1 v xs.length (xs.map encStr)) : ∃ A cap, v = .slice A xs.length cap ∧ RdS w A xs.length (xs.map fun x => ⟨x.toArray⟩) ∧ xs.length ≤ cap ∧ (A = none → cap = 0) ∧ ∀ a, A = some a → base ≤ a.block ∧ a.block < w.heap.size := by
  obtain ⟨h1, h⟩ := h
  rcases h with ⟨rfl, h0⟩ | ⟨q, cap, cur, rfl, hg, hh, hnc, hcm, hcs, hcu⟩
  · refine ⟨none, 0, by rw [h0], ⟨by simp, hl, fun hp => by omega⟩, by omega, fun _ => rfl, fun a ha => by cases ha⟩
  · refine ⟨_, cap, rfl, ⟨by simp, hl, fun hp => ⟨q, 0, rfl, fun i hi => ?_⟩⟩, hnc, (fun h => by cases h), (fun a ha => by injection ha with ha; subst ha; exact ⟨hg, (Array.getElem?_eq_some_iff.1 hh).1⟩)⟩
    rw [Nat.zero_add, cell_of_row w q i cur _ (0, 0) hh]
    have : (cur.toList.take (xs.length * 1))[i]? = (xs.map encStr)[i]? := by rw [hcu]
    rw [List.getElem?_take, if_pos (by omega), Array.getElem?_toList] at this
    rw [this, List.getElem?_map, List.getD_eq_getElem?_getD, List.getElem?_map, List.getElem?_eq_getElem hi]
    rfl
/-- what Names answers -/
def NamesAre (w : World) (m : List Ent) (e : Ending) (w' : World) : Prop := ∃ A cap, e = .returned (.slice A m.length cap) ∧ RdS w' A m.length (m.map fun e => ⟨e.nm.toArray⟩) ∧ (∀ a, A = some a → w.heap.size ≤ a.block ∧ a.block < w'.heap.size) ∧ Below w.heap.size w w'
set_option maxHeartbeats 1000000 in
theorem names_any (g b : Nat) (m : List Ent) (t : St) (w : World) (h : Im w g b m t) (hm : t.fs.length ≤ 1000000) : Calls Tryz.prog 43 #[.pointer (some ⟨g, 0, none⟩)] w (NamesAre w m) := by
  have hml : m.length ≤ 1000000 := by rw [h.len]; exact hm
  obtain ⟨c0, c1, c2, c3, c4, c5, c6, c7⟩ := Dsk.cells h.dsk
  have hown := h.own
  have hup := h.up
  refine (callsIn_wide (n := 6)).1 ?_
  have hfK : Fence.wide.fn 82 := trivial
  have hfS : Fence.wide.fn 81 := trivial
  have HS := Lib.hid (Tryz.slices_Sorted_keys_81_82 b m.length (dOf m) R1 w hown (by rw [dOf_size]; unfold maxLen; omega) (by rw [dOf_size]; omega))
  clear h hown
  refine callsIn_of_wp Tryz.func43 rfl trivial ?_ rfl
  simp only [Tryz.ntmps43, List.size_toArray, List.length_cons, List.length_nil, Nat.reduceAdd, Nat.reduceSub, Array.replicate_succ, Array.replicate_zero, List.push_toArray, List.append_toArray, List.nil_append, List.cons_append]
  gi_wp2_with (first
    | (gi_at_call 82; refine (Tryz.maps_Keys_82 _ _).mono ?_; rintro e w' ⟨rfl, rfl⟩)
    | (gi_at_call 81; refine HS.out.mono ?_; rintro e w' ⟨v, ss, rfl, hS, hrow, hnil, hb⟩))
  go_ret
  have e1 : ss.mergeSort (fun x y => decide (x ≤ y)) = m.map Ent.nm := by
    rw [dOf_keys] at hS
    exact (mergeSort_of_perm hS).trans (sorted_keys hup)
  have e2 : ss.length = (m.map Ent.nm).length := by rw [← e1]; simp
  rw [e1, e2] at hrow
  obtain ⟨A, cap, hv, hr, _, _, hbl⟩ := rds_of_row (by simp; omega) hrow
  subst hv
  have hl : (m.map Ent.nm).length = m.length := by simp
  rw [hl] at hr
  have hbw : Below w.heap.size w (w.alloc (.cells #[.map (some b)] 69)) := (Below.refl _ w).alloc (Nat.le_refl _) _
  refine ⟨A, cap, by simp [hl], by rw [List.map_map] at hr; exact hr, fun a ha => ⟨Nat.le_trans hbw.size (hbl a ha).1, (hbl a ha).2⟩, hbw.trans (hb.mono hbw.size)⟩
end Go.Proofs.YtejphnbhcabchaaGreat.Dk
