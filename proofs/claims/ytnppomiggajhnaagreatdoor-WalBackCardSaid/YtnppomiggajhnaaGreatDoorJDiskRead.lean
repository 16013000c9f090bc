/-
  Several texts in one: Read and Names of the program's disk, and bytes.Clone. Conditions: the disk lies in memory as it was made (Im). What a crash leaves of a file. Conditions: the file's bytes can be read. What a crash makes of the files, one by one. Conditions: the disk lies in memory as it was made (Im). Layer 6: the records that the program makes: numbers, put, headRecord, entryRecord, cutRecord, resetRecord. Conditions: the numbers fit; an entry's bytes are at most 4096. Layer 6: the names of segments, in the program: nameOf, segment.name, numberOf. Conditions: the library's table of powers of ten and its error 'invalid syntax' are laid (Base); numbers have at most eight digits. Crash of the program's disk. Conditions: the disk lies in memory as it was made (Im), keep can be read and is none of its blocks. Layer 6: what the listed variables hold, for every row of this seat. No condition but the row's own.
-/
import Derived.Test.YtnppomiggajhnaaGreatDoorJDiskFault
import Derived.Test.YtnppomiggajhnaaGreatDoorIter
import Derived.Lib.LazyBuf
import Derived.Test.YtnppomiggajhnaaGreatDoorJCrcMath
import Derived.Test.YtnppomiggajhnaaGreatDoorJFieldBase
import Derived.Test.YtnppomiggajhnaaGreatDoorJFieldTxt
import Derived.Test.YtnppomiggajhnaaGreatDoorJDiskMath
import Derived.Test.YtnppomiggajhnaaGreatDoorShelf
import Derived.Laws.Concat
import Derived.Lib.AtoiErrMem
import Derived.Test.YtnppomiggajhnaaGreatDoorRows
import Derived.ProofKit
import Derived.LaidMore
import Derived.MakeChecks
import Derived.Lib.LaidTab
import Derived.Stop.LaidErr
namespace Go.Proofs.YtnppomiggajhnaaGreatDoor.Dk
open Go.RowKit Go.Proofs.YtnppomiggajhnaaGreatDoor.Fld Go.Sort Go.Shelf Go.Maps

set_option maxHeartbeats 800000 in
theorem clone_any (A : Option Addr) (n cap : Nat) (zs : List Int) (w : World) (hr : Rd w A n zs) (hA : A = none → cap = 0) (hn : n ≤ 140737488355328) : Calls Tryz.prog 110 #[.slice A n cap] w fun e w' => ∃ v, e = .returned v ∧ Own w w' v zs := by
  have q := fun (w : World) (a : Option Addr) (l c : Nat) => run_eql_slice_nil (P := Tryz.prog) w 61 5 a l c Tryz.underlying61
  cases A with
  | none =>
    have hn0 : n = 0 := by
      rcases Nat.eq_zero_or_pos n with h0 | h0
      · exact h0
      · obtain ⟨b, off, he, _⟩ := hr.2.2.2 h0; cases he
    subst hn0
    obtain rfl : zs = [] := List.eq_nil_of_length_eq_zero hr.1
    obtain rfl := hA rfl
    clear hr hA
    go_enter Tryz.func110, Tryz.ntmps110
    go_wp2
    go_ret
    exact ⟨_, rfl, Own.nil w w (Below.refl _ _)⟩
  | some a =>
    have HR := Lib.hid hr
    have HA := Lib.hid hA
    have HO := Lib.hid (Own.made w w (Below.refl _ _))
    have HR1 := Lib.hid (HR.out.below HO.out.1)
    unfold noneBlk at HO HR1
    clear hr hA
    go_enter Tryz.func110, Tryz.ntmps110
    go_wp2_with (refine wpList_append_rd rfl _ _ rfl w _ [] rfl HO.out (some a) n cap zs rfl HA.out HR1.out (by simp; omega) ?_)
    intro v1 w1 hO1 _ _
    have HO2 := Lib.hid hO1
    clear hO1
    go_wp2
    go_ret
    exact ⟨_, rfl, HO2.out⟩

/-- what Read answers -/
def ReadIs (w : World) (r : Int × List Int) (e : Ending) (w' : World) : Prop := ∃ A n cap, e = .returned (.tuple #[.slice A n cap, .int .i64 r.1]) ∧ Sl w' A n cap r.2 ∧ n ≤ 16777216 ∧ Below w.heap.size w w'
set_option maxRecDepth 100000 in
set_option maxHeartbeats 3200000 in
theorem read_any (g b : Nat) (m : List Ent) (t : St) (s : ByteArray) (w : World) (h : Im w g b m t) : Calls Tryz.prog 49 #[.pointer (some ⟨g, 0, none⟩), .string s] w (ReadIs w (stRead s.data.toList t)) := by
  obtain ⟨c0, c1, c2, c3, c4, c5, c6, c7⟩ := Dsk.cells h.dsk
  have HI := Lib.hid h
  have hst : stRead s.data.toList t = if t.off then ((5 : Int), []) else if okN s.data.toList then (match found m s with | some e => ((0 : Int), e.zs) | none => (2, [])) else (1, []) := by
    unfold stRead
    rw [h.get]
    cases found m s <;> rfl
  rw [hst]
  clear h hst
  cases hoff : t.off with
  | true =>
    rw [hoff] at c3
    rw [if_pos rfl]
    go_enter Tryz.func49, Tryz.ntmps49
    go_wp2
    go_ret2
    exact ⟨none, 0, 0, rfl, Sl.nil w, by omega, Below.refl _ _⟩
  | false =>
    rw [hoff] at c3
    rw [if_neg (by simp)]
    have hb1 : Below w.heap.size w (w.alloc (.cells #[.string s] 9)) := (Below.refl _ _).alloc (Nat.le_refl _) _
    have HB1 := Lib.hid hb1
    have HV := Lib.hid (valid_any _ 1 1 [s] _ (rds_one w s))
    rw [allN_one] at HV
    cases hok : okN s.data.toList with
    | false =>
      rw [hok] at HV
      rw [if_neg (by simp)]
      clear hb1
      go_enter Tryz.func49, Tryz.ntmps49
      go_wp2_with (go_at_call 109; refine HV.out.mono ?_; rintro e w' ⟨rfl, rfl⟩)
      go_ret2
      exact ⟨none, 0, 0, rfl, Sl.nil _, by omega, HB1.out⟩
    | true =>
      rw [hok] at HV
      rw [if_pos rfl]
      have hs := size_of_ok hok
      have hlk := look2 (own_of_block HI.out.own (hb1.block b HI.out.own.lt)) s hs
      have p1 := cell_past c1 (.cells #[.string s] 9)
      clear hb1
      cases hf : found m s with
      | none =>
        have hfv : foundV m s = zeroF := by unfold foundV; rw [hf]; rfl
        rw [hfv, hf] at hlk
        unfold zeroF at hlk
        clear hfv
        have hb2 : ∀ o, Below w.heap.size w ((w.alloc (.cells #[.string s] 9)).alloc o) := fun o => HB1.out.alloc (by simp) o
        have HB2 := Lib.hid hb2
        clear hb2
        go_enter Tryz.func49, Tryz.ntmps49
        go_wp2_with (go_at_call 109; refine HV.out.mono ?_; rintro e w' ⟨rfl, rfl⟩)
        go_ret2
        exact ⟨none, 0, 0, rfl, Sl.nil _, by omega, HB2.out _⟩
      | some e =>
        have hfile := HI.out.file e (get_some hf).1
        obtain ⟨A, cap, hv, hsl⟩ := hfile.form
        have hfv : foundV m s = .agg #[.slice A e.zs.length cap, .int .i64 (e.s : Int)] := by unfold foundV; rw [hf, Option.map_some, Option.getD_some, Ent.val, hv]
        rw [hfv, hf] at hlk
        have hb2 : Below w.heap.size w ((w.alloc (.cells #[.string s] 9)).alloc (.cells #[.slice A e.zs.length cap, .int .i64 (e.s : Int)] 95)) := HB1.out.alloc (by simp) _
        have hl : e.zs.length ≤ 16777216 := by
          have h1 := total_del (f := e.fil) HI.out.good.up (x := s.data.toList) (by rw [HI.out.get, hf]; rfl)
          have h2 := HI.out.good.fits
          have h3 := HI.out.good.room2
          have h4 : e.fil.2.1.length = e.zs.length := rfl
          omega
        have HCL := Lib.hid (clone_any A e.zs.length cap e.zs _ (hsl.1.below hb2) hsl.2.2.2.1 (by omega))
        have HB2 := Lib.hid hb2
        clear hb2 hfv hsl hv hfile
        simp only
        generalize hn : e.zs.length = n at *
        have HN := Lib.hid hn
        clear hn
        go_enter Tryz.func49, Tryz.ntmps49
        go_wp2_with (first | (go_at_call 109; refine HV.out.mono ?_; rintro e w' ⟨rfl, rfl⟩) | (go_at_call 110; refine HCL.out.mono ?_; rintro e w' ⟨v, rfl, hO⟩; have HO := Lib.hid hO; clear hO))
        go_ret2
        obtain ⟨A2, cap2, hv2, hs2, _⟩ := HO.out.sl n HN.out
        subst hv2
        exact ⟨A2, n, cap2, rfl, hs2, hl, HB2.out.trans (HO.out.1.mono HB2.out.size)⟩

theorem rds_of_row {w : World} {base : Nat} {v : Value} {xs : List Nm} (hl : xs.length ≤ 1000000000) (h : w.ownsRow base 9 1 v xs.length (xs.map encStr)) : ∃ A cap, v = .slice A xs.length cap ∧ RdS w A xs.length (xs.map fun x => ⟨x.toArray⟩) ∧ xs.length ≤ cap ∧ (A = none → cap = 0) ∧ ∀ a, A = some a → base ≤ a.block ∧ a.block < w.heap.size := by
  obtain ⟨h1, h⟩ := h
  rcases h with ⟨rfl, h0⟩ | ⟨q, cap, cur, rfl, hg, hh, hnc, hcm, hcs, hcu⟩
  · refine ⟨none, 0, by rw [h0], ⟨by simp, hl, fun hp => by omega⟩, by omega, fun _ => rfl, fun a ha => by cases ha⟩
  · refine ⟨_, cap, rfl, ⟨by simp, hl, fun hp => ⟨q, 0, rfl, fun i hi => ?_⟩⟩, hnc, (fun h => by cases h), (fun a ha => by injection ha with ha; subst ha; exact ⟨hg, (Array.getElem?_eq_some_iff.1 hh).1⟩)⟩
    rw [Nat.zero_add, cell_of_row w q i cur _ (0, 0) hh]
    have : (cur.toList.take (xs.length * 1))[i]? = (xs.map encStr)[i]? := by rw [hcu]
    rw [List.getElem?_take, if_pos (by omega), Array.getElem?_toList] at this
    rw [this, List.getElem?_map, List.getD_eq_getElem?_getD, List.getElem?_map, List.getElem?_eq_getElem hi]
    rfl
/-- what Names answers -/
def NamesAre (w : World) (m : List Ent) (e : Ending) (w' : World) : Prop := ∃ A cap, e = .returned (.slice A m.length cap) ∧ RdS w' A m.length (m.map fun e => ⟨e.nm.toArray⟩) ∧ (∀ a, A = some a → w.heap.size ≤ a.block ∧ a.block < w'.heap.size) ∧ Below w.heap.size w w'
set_option maxHeartbeats 1000000 in
theorem names_any (g b : Nat) (m : List Ent) (t : St) (w : World) (h : Im w g b m t) (hm : t.fs.length ≤ 1000000) : Calls Tryz.prog 33 #[.pointer (some ⟨g, 0, none⟩)] w (NamesAre w m) := by
  have hml : m.length ≤ 1000000 := by rw [h.len]; exact hm
  obtain ⟨c0, c1, c2, c3, c4, c5, c6, c7⟩ := Dsk.cells h.dsk
  have hown := h.own
  have hup := h.up
  refine (callsIn_wide (n := 6)).1 ?_
  have hfK : Fence.wide.fn 84 := trivial
  have hfS : Fence.wide.fn 83 := trivial
  have HS := Lib.hid (Tryz.slices_Sorted_keys_83_84 b m.length (dOf m) R1 w hown (by rw [dOf_size]; unfold maxLen; omega) (by rw [dOf_size]; omega))
  clear h hown
  refine callsIn_of_wp Tryz.func33 rfl trivial ?_ rfl
  simp only [Tryz.ntmps33, List.size_toArray, List.length_cons, List.length_nil, Nat.reduceAdd, Nat.reduceSub, Array.replicate_succ, Array.replicate_zero, List.push_toArray, List.append_toArray, List.nil_append, List.cons_append]
  gi_wp2_with (first
    | (gi_at_call 84; refine (Tryz.maps_Keys_84 _ _).mono ?_; rintro e w' ⟨rfl, rfl⟩)
    | (gi_at_call 83; refine HS.out.mono ?_; rintro e w' ⟨v, ss, rfl, hS, hrow, hnil, hb⟩))
  go_ret
  have e1 : ss.mergeSort (fun x y => decide (x ≤ y)) = m.map Ent.nm := by
    rw [dOf_keys] at hS
    exact (mergeSort_of_perm hS).trans (sorted_keys hup)
  have e2 : ss.length = (m.map Ent.nm).length := by rw [← e1]; simp
  rw [e1, e2] at hrow
  obtain ⟨A, cap, hv, hr, _, _, hbl⟩ := rds_of_row (by simp; omega) hrow
  subst hv
  have hl : (m.map Ent.nm).length = m.length := by simp
  rw [hl] at hr
  have hbw : Below w.heap.size w (w.alloc (.cells #[.map (some b)] 74)) := (Below.refl _ w).alloc (Nat.le_refl _) _
  refine ⟨A, cap, by simp [hl], by rw [List.map_map] at hr; exact hr, fun a ha => ⟨Nat.le_trans hbw.size (hbl a ha).1, (hbl a ha).2⟩, hbw.trans (hb.mono hbw.size)⟩
end Go.Proofs.YtnppomiggajhnaaGreatDoor.Dk

namespace Go.Proofs.YtnppomiggajhnaaGreatDoor.Dk
open Go.RowKit Go.Proofs.YtnppomiggajhnaaGreatDoor.Fld

def nstay (k : Int) (n s : Nat) : Nat := s + (min (max k 0) ((n - s : Nat) : Int)).toNat
theorem own_set {w0 w : World} {v : Value} {zs : List Int} (h : Own w0 w v zs) (p : Addr) (hp : w0.heap.size ≤ p.block) (hv : v.ownBlock ≠ some p.block) (u : Value) : Own w0 (w.setCell p u) v zs := by
  obtain ⟨hb, hby, hl, h⟩ := h
  refine ⟨hb.setCell hp _, hby, hl, ?_⟩
  rcases h with h | ⟨q, cap, cur, rfl, hg, hh, r⟩
  · exact .inl h
  · exact .inr ⟨q, cap, cur, rfl, hg, (Below.heap_setCell _ _ _ _ (by intro e; apply hv; rw [e]; rfl)).trans hh, r⟩
theorem own_ge {w0 w : World} {v : Value} {zs : List Int} (h : Own w0 w v zs) {i : Nat} (hi : v.ownBlock = some i) : w0.heap.size ≤ i := by
  rcases h.2.2.2 with ⟨rfl, _⟩ | ⟨q, cap, cur, rfl, hg, _⟩
  · cases hi
  · cases hi; exact hg
set_option maxRecDepth 100000 in
set_option maxHeartbeats 3200000 in
theorem survivor_any (A : Option Addr) (n cap s : Nat) (k : Int) (zs : List Int) (w : World) (hr : Sl w A n cap zs) (hs : s ≤ n) (hn : n ≤ 16777216) :
    Calls Tryz.prog 54 #[.agg #[.slice A n cap, .int .i64 (s : Int)], .int .i64 k] w fun e w' => ∃ v, e = .returned (.agg #[v, .int .i64 (nstay k n s : Nat)]) ∧ Own w w' v (zs.take (nstay k n s)) := by
  obtain ⟨E, hE⟩ : ∃ E, E = nstay k n s := ⟨_, rfl⟩
  have hEn : E ≤ n := by rw [hE]; unfold nstay; omega
  have hle := hr.2.1
  rw [← hE]
  have hsum : (s : Int) + min (max k 0) ((n : Int) - (s : Int)) = (E : Int) := by rw [hE]; unfold nstay; omega
  have hmin : IntKind.i64.wrap ((n : Int) - (s : Int)) = (n : Int) - (s : Int) := IntWalk.i64_in _ (by omega)
  have hb2 : Below w.heap.size w ((w.alloc (.cells #[.slice A n cap, .int .i64 (s : Int)] 95)).alloc (.cells #[.slice none 0 0, .int .i64 0] 95)) := ((Below.refl _ _).alloc (Nat.le_refl _) _).alloc (by simp) _
  have hC := clone_any A E cap (zs.take E) _ ((hr.1.cut E hEn).below hb2) hr.2.2.2.1 (by omega)
  have hN : ((w.alloc (.cells #[.slice A n cap, .int .i64 (s : Int)] 95)).alloc (.cells #[.slice none 0 0, .int .i64 0] 95)).heap[w.heap.size + 1]? = some (.cells #[.slice none 0 0, .int .i64 0] 95 (0, 0)) := by
    have := heap_alloc_new (w.alloc (.cells #[.slice A n cap, .int .i64 (s : Int)] 95)) (.cells #[.slice none 0 0, .int .i64 0] 95)
    rwa [size_up] at this
  have hsz : ((w.alloc (.cells #[.slice A n cap, .int .i64 (s : Int)] 95)).alloc (.cells #[.slice none 0 0, .int .i64 0] 95)).heap.size = w.heap.size + 1 + 1 := by rw [size_up, size_up]
  have HC := Lib.hid hC
  have HB := Lib.hid hb2
  have HN := Lib.hid hN
  have HSZ := Lib.hid hsz
  have HL := Lib.hid (show (zs.take E).length = E by rw [List.length_take, hr.1.1]; omega)
  clear hr hE hC hb2 hN hsz
  go_enter Tryz.func54, Tryz.ntmps54
  go_wp2_with (go_at_call 110; refine HC.out.mono ?_; rintro e w' ⟨v, rfl, hO⟩; have hN' := (hO.1.block (w.heap.size + 1) (by rw [HSZ.out]; omega)).trans HN.out; have k0 := cell_of_row w' (w.heap.size + 1) 0 _ _ (0, 0) hN'; have k1 := cell_of_row w' (w.heap.size + 1) 1 _ _ (0, 0) hN'; have z0 := frozen_of_row w' (w.heap.size + 1) 0 _ _ hN'; have z1 := frozen_of_row w' (w.heap.size + 1) 1 _ _ hN'; have HO := Lib.hid hO; obtain ⟨A2, c2, hv2, _, _⟩ := hO.form E HL.out; subst hv2; have HN2 := Lib.hid hN'; clear hO hN')
  have hG := heap_setCell_same _ (w.heap.size + 1) 1 _ _ (.int .i64 (E : Int)) (heap_setCell_same w' (w.heap.size + 1) 0 _ _ (.slice A2 E c2) HN2.out)
  refine bodyPost_ret (results_cell_row rfl _ _ (w.heap.size + 1) _ #[.slice A2 E c2, .int .i64 (E : Int)] (0, 0) _ rfl hG Tryz.underlying95 rfl (by kernel_rfl)) rfl ?_
  have hO2 : Own w w' (.slice A2 E c2) (zs.take E) := HO.out.since HB.out
  have hne : (Value.slice A2 E c2).ownBlock ≠ some (w.heap.size + 1) := fun h => by have := own_ge HO.out h; rw [HSZ.out] at this; omega
  exact ⟨_, rfl, own_set (own_set hO2 ⟨w.heap.size + 1, 0, none⟩ (by simp) hne _) ⟨w.heap.size + 1, 1, none⟩ (by simp) hne _⟩
end Go.Proofs.YtnppomiggajhnaaGreatDoor.Dk

namespace Go.Proofs.YtnppomiggajhnaaGreatDoor.Dk
open Go.RowKit Go.Proofs.YtnppomiggajhnaaGreatDoor.Fld

theorem nstay_le {k : Int} {n s : Nat} (h : s ≤ n) : nstay k n s ≤ n := by unfold nstay; omega
theorem Good.crash1 {t : St} (h : Good t) {x : Nm} {f : Fil} (hg : fget x t.fs = some f) (E : Nat) (hE : E ≤ f.2.1.length) : Good { t with fs := fput (x, f.2.1.take E, E) t.fs } ∧ total (fput (x, f.2.1.take E, E) t.fs) + (f.2.1.length - E) = total t.fs := by
  obtain ⟨h1, h2⟩ := get_some hg
  have ht : total (fput (x, f.2.1.take E, E) t.fs) + (f.2.1.length - E) = total t.fs := by
    rw [total_put]
    have := total_del h.up hg
    simp only [List.length_take]
    omega
  refine ⟨h.put (x, f.2.1.take E, E) (by rw [← h2]; exact h.name f h1) (by simp; omega) (fun c hc => h.byte f h1 c (List.mem_of_mem_take hc)) ?_, ht⟩
  have := h.fits
  omega
/-- memory behind one round -/
theorem crash_mid {wr w' : World} {g b : Nat} {m : List Ent} {t : St} {s : ByteArray} {e : Ent} (h : Im wr g b m t) (hm : t.fs.length ≤ 1000000) (hs : s.size ≤ maxLen) (hf : found m s = some e) (E : Nat) (hE : E ≤ e.zs.length) (v : Value) (hO : Own wr w' v (e.zs.take E)) :
    ∃ (T2 : Nat) (W4 : World), T2 + (e.zs.length - E) = total t.fs ∧
      (Instr.mapUpdate 74 (.map (some b)) (.string s) (.agg #[v, .int .i64 (E : Int)])).run Tryz.prog (((w'.setCell ⟨g, 2, none⟩ (.int .i64 (T2 : Int))).alloc (.cells #[v, .int .i64 (E : Int)] 95)).drew.drew) = .ok () W4 ∧
      Left wr g b m { t with fs := fput (s.data.toList, e.zs.take E, E) t.fs } W4 ∧ Fr (g :: b :: []) wr W4 := by
  obtain ⟨n1, n2, n3⟩ := h.ne
  obtain ⟨he1, he2⟩ := get_some hf
  have hg : fget s.data.toList t.fs = some e.fil := by rw [h.get, hf]; rfl
  obtain ⟨hgood, htot⟩ := h.good.crash1 hg E hE
  have hI := h.below hO.1
  refine ⟨total (fput (s.data.toList, e.zs.take E, E) t.fs), ?_⟩
  obtain ⟨T2, hT2⟩ : ∃ T2, T2 = total (fput (s.data.toList, e.zs.take E, E) t.fs) := ⟨_, rfl⟩
  rw [← hT2]
  have hown3 : (((w'.setCell ⟨g, 2, none⟩ (.int .i64 (T2 : Int))).alloc (.cells #[v, .int .i64 (E : Int)] 95)).drew.drew).ownsMap Tryz.prog 9 R1 b m.length (dOf m) := (((hI.own.setCell (a := ⟨g, 2, none⟩) (Ne.symm n1) _).alloc _).drew).drew
  obtain ⟨W4, hup, hown4, hturn⟩ := store1 hown3 (by rw [h.len]; exact hm) s hs ⟨s.data.toList, v, e.zs.take E, E⟩ rfl
  have hsz : w'.heap.size ≤ (((w'.setCell ⟨g, 2, none⟩ (.int .i64 (T2 : Int))).alloc (.cells #[v, .int .i64 (E : Int)] 95)).drew.drew).heap.size := by
    show w'.heap.size ≤ ((w'.setCell ⟨g, 2, none⟩ (.int .i64 (T2 : Int))).alloc _).heap.size
    rw [size_up]
    simp [World.setCell]
  have late : ∀ i, i < w'.heap.size → i ≠ g → i ≠ b → W4.heap[i]? = w'.heap[i]? := by
    intro i hi h1 h2
    rw [hturn.grown.block i (by omega) (by simpa using h2)]
    show ((w'.setCell ⟨g, 2, none⟩ (.int .i64 (T2 : Int))).alloc _).heap[i]? = _
    rw [Below.heap_alloc _ _ _ (by simpa [World.setCell] using hi), Below.heap_setCell _ _ _ _ h1]
  have hD : Dsk W4 g (t.room : Int) b (T2 : Int) t.off t.fail.isSome ((t.fail.getD 0 : Nat) : Int) t.arm.isSome ((t.arm.getD 0 : Nat) : Int) := by
    refine Dsk.of_block (Dsk.set2 hI.dsk (T2 : Int)) ?_
    rw [hturn.grown.block g (by have := hI.dsk.lt; omega) (by simpa using n1)]
    show ((w'.setCell ⟨g, 2, none⟩ (.int .i64 (T2 : Int))).alloc _).heap[g]? = _
    exact Below.heap_alloc _ _ _ (by have := hI.dsk.lt; simpa [World.setCell] using this)
  have hfr : Fr [g, b] wr W4 := by
    refine ⟨?_, ?_, ?_, ?_, ?_⟩
    · exact hturn.grown.os.trans hO.1.os
    · exact hturn.grown.tape.trans hO.1.tape
    · exact hturn.grown.output.trans hO.1.output
    · exact Nat.le_trans hO.1.size (Nat.le_trans hsz hturn.grown.size)
    · intro k hk hn
      simp only [List.mem_cons, List.not_mem_nil, or_false, not_or] at hn
      rw [late k (Nat.lt_of_lt_of_le hk hO.1.size) hn.1 hn.2, hO.1.block k hk]
  have hvb : ∀ i, v.ownBlock = some i → wr.heap.size ≤ i ∧ i < w'.heap.size := by
    intro i hi
    refine ⟨own_ge hO hi, ?_⟩
    rcases hO.2.2.2 with ⟨hv, _⟩ | ⟨q, cap, cur, hv, _, hq, _⟩
    · rw [hv] at hi; cases hi
    · rw [hv] at hi; cases hi; exact (Array.getElem?_eq_some_iff.1 hq).1
  have hlt := h.lt
  refine ⟨W4, by rw [hT2]; exact htot, hup, ⟨_, h.stored ⟨s.data.toList, v, e.zs.take E, E⟩ ?_ hown4 rfl hgood ?_ ?_ ?_ rfl rfl, hfr.mono (by simp), ?_⟩, hfr⟩
  · unfold DskT
    simp only [← hT2]
    exact hD
  · refine (show FileAt w' ⟨s.data.toList, v, e.zs.take E, E⟩ from ⟨hO.2.1, hO.2.2.1, ?_⟩).of_block fun i hi => ?_
    · rcases hO.2.2.2 with h | ⟨q, cap, cur, hv, hg, r⟩
      · exact .inl h
      · exact .inr ⟨q, cap, cur, hv, Nat.zero_le _, r⟩
    · obtain ⟨h1, h2⟩ := hvb i hi
      exact late i h2 (by have := hlt g (by simp); omega) (by have := hlt b (by simp); omega)
  · intro a ha _
    refine (h.file a ha).of_block fun i hi => ?_
    have hib : i ∈ blks m := mem_blks.2 ⟨a, ha, hi⟩
    exact hfr.block i ((h.file a ha).lt hi) (by
      simp only [List.mem_cons, List.not_mem_nil, or_false, not_or]
      exact ⟨fun e => n2 (e ▸ hib), fun e => n3 (e ▸ hib)⟩)
  · intro i hi hm
    obtain ⟨h1, _⟩ := hvb i hi
    have : i < wr.heap.size := hlt i (by
      simp only [List.mem_cons] at hm ⊢
      rcases hm with hm | hm | hm
      · exact .inl hm
      · exact .inr (.inl hm)
      · exact .inr (.inr (blks_del hm)))
    omega
  · intro i hi
    obtain ⟨a, ha, hv⟩ := mem_blks.1 hi
    rcases mem_put.1 ha with rfl | ⟨ha, _⟩
    · exact .inr (hvb i hv).1
    · exact .inl (mem_blks.2 ⟨a, ha, hv⟩)

/-! ### the files, one by one -/
theorem crashTo_len (i : Nat) (ks : List Int) (fs : List Fil) : (crashTo i ks fs).length = fs.length := by simp [crashTo]
theorem crashTo_at (i : Nat) (ks : List Int) (fs : List Fil) (j : Nat) : (crashTo i ks fs)[j]? = (fs[j]?).map fun f => if j < i then crash1 (ks.getD j 0) f else f := by
  unfold crashTo
  rw [List.getElem?_mapIdx]
theorem crashTo_zero (ks : List Int) (fs : List Fil) : crashTo 0 ks fs = fs := by
  apply List.ext_getElem?
  intro j
  rw [crashTo_at]
  cases fs[j]? <;> simp
theorem crashTo_key (i : Nat) (ks : List Int) (fs : List Fil) (j : Nat) : (crashTo i ks fs)[j]?.map Prod.fst = fs[j]?.map Prod.fst := by
  rw [crashTo_at]
  cases fs[j]? with
  | none => rfl
  | some f =>
    simp only [Option.map_some]
    split <;> rfl
theorem crash_step (k : Nat) (ks : List Int) (fs : List Fil) (h : Up Prod.fst (crashTo k ks fs)) (f : Fil) (hf : fs[k]? = some f) : crashTo (k + 1) ks fs = fput (crash1 (ks.getD k 0) f) (crashTo k ks fs) := by
  have hk : k < fs.length := (List.getElem?_eq_some_iff.1 hf).1
  have hk2 : k < (crashTo k ks fs).length := by rw [crashTo_len]; exact hk
  have hat : (crashTo k ks fs)[k]? = some f := by rw [crashTo_at, hf]; simp
  have hat2 : (crashTo k ks fs)[k] = f := by rw [List.getElem?_eq_getElem hk2] at hat; exact Option.some.inj hat
  have := put_at h (crash1 (ks.getD k 0) f) k hk2 (by rw [hat2]; rfl)
  unfold fput
  rw [this]
  apply List.ext_getElem?
  intro j
  rw [crashTo_at, List.getElem?_set, crashTo_at]
  by_cases hj : k = j
  · subst hj
    rw [if_pos rfl, if_pos hk2, hf]
    simp
  · rw [if_neg hj]
    cases fs[j]? with
    | none => rfl
    | some f2 =>
      simp only [Option.map_some]
      congr 1
      by_cases h1 : j < k
      · rw [if_pos h1, if_pos (by omega)]
      · rw [if_neg h1, if_neg (by omega)]
/-- a slice of integers -/
def RdI (w : World) (A : Option Addr) (n : Nat) (ks : List Int) : Prop :=
  ks.length = n ∧ n ≤ maxLen ∧ (0 < n → ∃ b off, A = some ⟨b, off, none⟩ ∧ ∀ i, i < n → w.cell? ⟨b, off + i, none⟩ = some (.int .i64 (ks.getD i 0)))
theorem RdI.fr {S : List Nat} {w w' : World} {A : Option Addr} {n : Nat} {ks : List Int} (h : RdI w A n ks) (hf : Fr S w w') (hS : 0 < n → ∀ a, A = some a → a.block ∉ S) : RdI w' A n ks := by
  obtain ⟨h1, h2, h3⟩ := h
  refine ⟨h1, h2, fun hn => ?_⟩
  obtain ⟨b, off, rfl, hc⟩ := h3 hn
  exact ⟨b, off, rfl, fun i hi => hf.cell (hc i hi) (hS hn ⟨b, off, none⟩ rfl)⟩
theorem RdS.fr {S : List Nat} {w w' : World} {A : Option Addr} {n : Nat} {ks : List ByteArray} (h : RdS w A n ks) (hf : Fr S w w') (hS : ∀ a, A = some a → a.block ∉ S) : RdS w' A n ks := by
  obtain ⟨h1, h2, h3⟩ := h
  refine ⟨h1, h2, fun hn => ?_⟩
  obtain ⟨b, off, rfl, hc⟩ := h3 hn
  exact ⟨b, off, rfl, fun i hi => hf.cell (hc i hi) (hS ⟨b, off, none⟩ rfl)⟩
theorem Left.trans {w w1 w2 : World} {g b : Nat} {m m1 : List Ent} {t2 : St} (hf : Fr (g :: b :: blks m) w w1) (hb : ∀ i ∈ blks m1, i ∈ blks m ∨ w.heap.size ≤ i) (h2 : Left w1 g b m1 t2 w2) : Left w g b m t2 w2 := by
  obtain ⟨m2, hI, hf2, hb2⟩ := h2
  refine ⟨m2, hI, hf.trans hf2 ?_, ?_⟩
  · intro i hi
    simp only [List.mem_cons] at hi ⊢
    rcases hi with hi | hi | hi
    · exact .inl (.inl hi)
    · exact .inl (.inr (.inl hi))
    · rcases hb i hi with h | h
      · exact .inl (.inr (.inr h))
      · exact .inr h
  · intro i hi
    rcases hb2 i hi with h | h
    · exact hb i h
    · exact .inr (Nat.le_trans hf.size h)
theorem Im.restart {w : World} {g b : Nat} {m : List Ent} {t : St} (h : Im w g b m t) :
    Im (((((w.setCell ⟨g, 3, none⟩ (.bool false)).setCell ⟨g, 4, none⟩ (.bool false)).setCell ⟨g, 5, none⟩ (.int .i64 0)).setCell ⟨g, 6, none⟩ (.bool false)).setCell ⟨g, 7, none⟩ (.int .i64 0)) g b m { t with off := false, fail := none, arm := none } ∧
    Fr [g] w (((((w.setCell ⟨g, 3, none⟩ (.bool false)).setCell ⟨g, 4, none⟩ (.bool false)).setCell ⟨g, 5, none⟩ (.int .i64 0)).setCell ⟨g, 6, none⟩ (.bool false)).setCell ⟨g, 7, none⟩ (.int .i64 0)) := by
  have hf : Fr [g] w (((((w.setCell ⟨g, 3, none⟩ (.bool false)).setCell ⟨g, 4, none⟩ (.bool false)).setCell ⟨g, 5, none⟩ (.int .i64 0)).setCell ⟨g, 6, none⟩ (.bool false)).setCell ⟨g, 7, none⟩ (.int .i64 0)) :=
    (((((Fr.refl [g] w).setCell _ (.inl (by simp)) _).setCell _ (.inl (by simp)) _).setCell _ (.inl (by simp)) _).setCell _ (.inl (by simp)) _).setCell _ (.inl (by simp)) _
  obtain ⟨n1, n2, n3⟩ := h.ne
  refine ⟨⟨((((Dsk.set3 h.dsk false).set4 false).set5 0).set6 false).set7 0, own_of_block h.own (hf.block b h.own.lt (by simpa using Ne.symm n1)), h.fs, fun e he => (h.file e he).of_block fun i hi => hf.block i ((h.file e he).lt hi) (by
    intro hm
    simp only [List.mem_singleton] at hm
    exact n2 (mem_blks.2 ⟨e, he, by rw [← hm]; exact hi⟩)), h.nodup, ⟨h.good.1, h.good.2, h.good.3, h.good.4, h.good.5, h.good.6, h.good.7⟩, (fun k hk => by cases hk), (fun k hk => by cases hk)⟩, hf⟩
end Go.Proofs.YtnppomiggajhnaaGreatDoor.Dk

namespace Go.Proofs.YtnppomiggajhnaaGreatDoor.Wl
open Go.RowKit Go.Proofs.YtnppomiggajhnaaGreatDoor.Fld
set_option linter.unusedVariables false

theorem enc_len (l : List Nat) (h : ∀ n ∈ l, n < 18446744073709551616) : (enc l).length ≤ 9 * l.length := by
  induction l with
  | nil => simp [enc]
  | cons n l ih =>
    have h1 := digs_len8 n (h n (by simp))
    have h2 := ih (fun m hm => h m (by simp [hm]))
    unfold enc at *
    rw [List.flatMap_cons, List.length_append, code_len, List.length_cons]
    omega
theorem enc_take (l : List Nat) (k : Nat) (h : k < l.length) : enc (l.take (k + 1)) = enc (l.take k) ++ code (l.getD k 0) := by
  rw [List.take_add_one, List.getElem?_eq_getElem h, enc, List.flatMap_append, List.getD_eq_getElem?_getD, List.getElem?_eq_getElem h]
  simp [enc]
theorem alloc_below' (w : World) (o : Obj) : Below w.heap.size w (w.alloc o) := (Below.refl _ _).alloc (Nat.le_refl _) o
def ints (l : List Nat) : List Int := l.map fun (n : Nat) => (n : Int)
theorem ints_at (l : List Nat) (k : Nat) (h : k < l.length) : (ints l).getD k 0 = ((l.getD k 0 : Nat) : Int) := by simp [ints, h]
set_option maxRecDepth 100000 in
set_option maxHeartbeats 3200000 in
theorem numbers_any (A : Option Addr) (n cap : Nat) (l : List Nat) (w : World) (hr : Dk.RdI w A n (ints l)) (hl : l.length = n) (hn : n ≤ 10) (hs : ∀ m ∈ l, m ≤ 9223372036854775807) :
    Calls Tryz.prog 122 #[.slice A n cap] w (Made w (enc l)) := by
  have HR := Lib.hid hr
  have HL := Lib.hid hl
  have HS := Lib.hid hs
  clear hr hl hs
  go_enter Tryz.func122, Tryz.ntmps122
  go_wp2
  go_loopw [3, 8] (fun v i wr => ∃ k : Nat, k ≤ n ∧ i = .int .i64 k ∧ Own w wr v (enc (l.take k))) (fun _ i _ => n - (intOf i).toNat)
  case atStart => exact ⟨0, Nat.zero_le _, rfl, Own.nil w w (Below.refl _ _)⟩
  case round =>
    obtain ⟨k, hk, rfl, hO⟩ := hrel
    have HO := Lib.hid hO
    clear hO
    by_cases hlt : k < n
    · obtain ⟨b, off, rfl, hc1⟩ := HR.out.2.2 (by omega)
      have hc := hc1 k hlt
      rw [ints_at l k (by rw [HL.out]; exact hlt)] at hc
      have hc := (HO.out.1.cell (lt_of_cell hc)).trans hc
      clear hc1
      have hm : l.getD k 0 ≤ 9223372036854775807 := HS.out _ (by rw [List.getD_eq_getElem?_getD, List.getElem?_eq_getElem (by rw [HL.out]; exact hlt)]; simp)
      have HE := Lib.hid (enc_take l k (by rw [HL.out]; exact hlt))
      have HL1 := Lib.hid (show (enc (l.take k)).length ≤ 90 from by
        have := enc_len (l.take k) (fun m hm => by have := HS.out m (List.mem_of_mem_take hm); omega)
        rw [List.length_take] at this
        omega)
      generalize l.getD k 0 = m at *
      have HN := Lib.hid (number_any m (by omega) wr)
      have HM := Lib.hid (digs_len8 m (by omega))
      go_wp2_with fail
      refine HN.out.mono ?_
      rintro e w1 ⟨v1, rfl, hO1⟩
      obtain ⟨A1, c1, rfl, hs1, _⟩ := hO1.sl _ rfl
      have HO1 := Lib.hid (HO.out.below hO1.1)
      have HS1 := Lib.hid hs1
      clear hs1 hO1
      go_wp2_with (at_builtin; refine wpList_append_rd rfl _ _ rfl w _ (enc (l.take k)) rfl HO1.out A1 _ c1 (code m) rfl HS1.out.2.2.2.1 HS1.out.1 (by have := HM.out; have := HL1.out; rw [code_len]; omega) ?_; intro v2 w2 hO2 _ _; have HO2 := Lib.hid hO2; clear hO2)
      go_roundw
      case rel => exact ⟨k + 1, by omega, by go_num, by rw [HE.out]; exact HO2.out⟩
      case measure => simp [intOf]; omega
    · obtain rfl : k = n := by omega
      go_wp2
      go_ret
      exact ⟨_, rfl, by have := HO.out; rwa [← HL.out, List.take_length] at this⟩
set_option maxRecDepth 100000 in
theorem put_any (A : Option Addr) (n cap : Nat) (t : List Int) (w : World) (hr : Rd w A n t) (hA : A = none → cap = 0) (hn : n ≤ 65536) : Calls Tryz.prog 121 #[.slice A n cap] w (Made w (Rc.recd t)) := by
  have HP := Lib.hid (Rc.put_ok A n cap t w hr hA hn)
  clear hr hA
  go_enter Tryz.func121, Tryz.ntmps121
  go_wp2_with (go_at_call 153; refine HP.out.mono ?_; rintro e w' ⟨v, rfl, hO⟩; have HO := Lib.hid hO; clear hO)
  go_ret
  exact ⟨_, rfl, HO.out⟩
theorem rdI_built (w : World) (l : List Nat) (hl : l.length ≤ 100) (t : TypeId) : Dk.RdI (w.alloc (.cells (l.map fun (n : Nat) => Value.int .i64 (n : Int)).toArray t)) (some ⟨w.heap.size, 0, none⟩) l.length (ints l) := by
  refine ⟨by simp [ints], by unfold maxLen; omega, fun _ => ⟨_, _, rfl, fun i hi => ?_⟩⟩
  rw [World.cell?_alloc_mark, Nat.zero_add, ints_at l i hi]
  simp [hi]
theorem made_from {w w1 : World} {zs : List Int} {e : Ending} {w' : World} (h : Made w1 zs e w') (hb : Below w.heap.size w w1) : Made w zs e w' := by
  obtain ⟨v, he, hO⟩ := h
  exact ⟨v, he, hO.since hb⟩
set_option maxRecDepth 100000 in
set_option maxHeartbeats 800000 in
theorem headRecord_any (n i : Nat) (w : World) (hn : n ≤ 9223372036854775807) (hi : i ≤ 9223372036854775807) : Calls Tryz.prog 141 #[.int .i64 (n : Int), .int .i64 (i : Int)] w (Made w (Rc.recd (chC (.head n i)))) := by
  have HR := Lib.hid (rdI_built w [0, n, i] (by simp) 3)
  have HL := Lib.hid (enc_len [0, n, i] (by simp; omega))
  have HN := Lib.hid (numbers_any _ 3 3 [0, n, i] _ HR.out rfl (by omega) (by simp; omega))
  have HB := Lib.hid (alloc_below' w (.cells #[.int .i64 0, .int .i64 (n : Int), .int .i64 (i : Int)] 3))
  go_enter Tryz.func141, Tryz.ntmps141
  go_wp2_with fail
  refine HN.out.mono ?_
  rintro e w1 ⟨v1, rfl, hO1⟩
  obtain ⟨A1, c1, rfl, hs1, _⟩ := hO1.sl _ rfl
  have HP := Lib.hid (put_any A1 _ c1 _ w1 hs1.1 hs1.2.2.2.1 (by have := HL.out; simp at this; omega))
  have HB1 := Lib.hid hO1.1
  clear hs1 hO1
  go_wp2_with (go_at_call 121; refine HP.out.mono ?_; rintro e w' ⟨v, rfl, hO⟩; have HO := Lib.hid hO; clear hO)
  go_ret
  exact ⟨_, rfl, HO.out.since (HB.out.trans (HB1.out.mono HB.out.size))⟩
set_option maxRecDepth 100000 in
set_option maxHeartbeats 800000 in
theorem cutRecord_any (i : Nat) (w : World) (hi : i ≤ 9223372036854775807) : Calls Tryz.prog 67 #[.int .i64 (i : Int)] w (Made w (Rc.recd (chC (.cut i)))) := by
  have HR := Lib.hid (rdI_built w [2, i] (by simp) 3)
  have HL := Lib.hid (enc_len [2, i] (by simp; omega))
  have HN := Lib.hid (numbers_any _ 2 2 [2, i] _ HR.out rfl (by omega) (by simp; omega))
  have HB := Lib.hid (alloc_below' w (.cells #[.int .i64 2, .int .i64 (i : Int)] 3))
  go_enter Tryz.func67, Tryz.ntmps67
  go_wp2_with fail
  refine HN.out.mono ?_
  rintro e w1 ⟨v1, rfl, hO1⟩
  obtain ⟨A1, c1, rfl, hs1, _⟩ := hO1.sl _ rfl
  have HP := Lib.hid (put_any A1 _ c1 _ w1 hs1.1 hs1.2.2.2.1 (by have := HL.out; simp at this; omega))
  have HB1 := Lib.hid hO1.1
  clear hs1 hO1
  go_wp2_with (go_at_call 121; refine HP.out.mono ?_; rintro e w' ⟨v, rfl, hO⟩; have HO := Lib.hid hO; clear hO)
  go_ret
  exact ⟨_, rfl, HO.out.since (HB.out.trans (HB1.out.mono HB.out.size))⟩
set_option maxRecDepth 100000 in
set_option maxHeartbeats 800000 in
theorem resetRecord_any (i : Nat) (w : World) (hi : i ≤ 9223372036854775807) : Calls Tryz.prog 70 #[.int .i64 (i : Int)] w (Made w (Rc.recd (chC (.reset i)))) := by
  have HR := Lib.hid (rdI_built w [3, i] (by simp) 3)
  have HL := Lib.hid (enc_len [3, i] (by simp; omega))
  have HN := Lib.hid (numbers_any _ 2 2 [3, i] _ HR.out rfl (by omega) (by simp; omega))
  have HB := Lib.hid (alloc_below' w (.cells #[.int .i64 3, .int .i64 (i : Int)] 3))
  go_enter Tryz.func70, Tryz.ntmps70
  go_wp2_with fail
  refine HN.out.mono ?_
  rintro e w1 ⟨v1, rfl, hO1⟩
  obtain ⟨A1, c1, rfl, hs1, _⟩ := hO1.sl _ rfl
  have HP := Lib.hid (put_any A1 _ c1 _ w1 hs1.1 hs1.2.2.2.1 (by have := HL.out; simp at this; omega))
  have HB1 := Lib.hid hO1.1
  clear hs1 hO1
  go_wp2_with (go_at_call 121; refine HP.out.mono ?_; rintro e w' ⟨v, rfl, hO⟩; have HO := Lib.hid hO; clear hO)
  go_ret
  exact ⟨_, rfl, HO.out.since (HB.out.trans (HB1.out.mono HB.out.size))⟩
end Go.Proofs.YtnppomiggajhnaaGreatDoor.Wl

namespace Go.Proofs.YtnppomiggajhnaaGreatDoor.Wl
open Go.RowKit Go.Proofs.YtnppomiggajhnaaGreatDoor.Fld Go.Shelf

/-- what the library's variables hold -/
def Base (w : World) : Prop := Lib.TabIs Tryz.prog w "internal/strconv.uint64pow10" .u64 Lib.pow10Tab ∧ ∃ te pe, w.cell? ⟨0, 0, none⟩ = some (.iface te pe)
theorem Base.of_blocks {w w' : World} (h : Base w) (h0 : w'.heap[0]? = w.heap[0]?) (h2 : w'.heap[2]? = w.heap[2]?) : Base w' := by
  obtain ⟨ht, te, pe, hc⟩ := h
  refine ⟨?_, te, pe, (World.cell?_of_block (w := w) h0).trans hc⟩
  have hg : Tryz.prog.globalNamed "internal/strconv.uint64pow10" = some 2 := by kernel_rfl
  unfold Lib.TabIs World.var? at ht ⊢
  rw [hg] at ht ⊢
  simp only [Option.bind_some] at ht ⊢
  rw [h2]
  exact ht
theorem Base.lt {w : World} (h : Base w) : 0 < w.heap.size ∧ 2 < w.heap.size := by
  obtain ⟨ht, te, pe, hc⟩ := h
  refine ⟨lt_of_cell hc, ?_⟩
  have hg : Tryz.prog.globalNamed "internal/strconv.uint64pow10" = some 2 := by kernel_rfl
  unfold Lib.TabIs World.var? at ht
  rw [hg] at ht
  simp only [Option.bind_some] at ht
  rcases Nat.lt_or_ge 2 w.heap.size with h' | h'
  · exact h'
  · rw [Array.getElem?_eq_none h'] at ht; cases ht
theorem Base.below {w w' : World} (h : Base w) (hb : Below w.heap.size w w') : Base w' := h.of_blocks (hb.block _ h.lt.1) (hb.block _ h.lt.2)

def str (x : List UInt8) : ByteArray := ⟨x.toArray⟩
theorem str_size (x : List UInt8) : (str x).size = x.length := by simp [str, ByteArray.size]
theorem str_data (x : List UInt8) : (str x).data.toList = x := by simp [str]
theorem str_add (x y : List UInt8) : str x ++ str y = str (x ++ y) := ByteArray.mk_append_mk ..
theorem rep_zero (k : Nat) : Lib.repeatL [48] k = List.replicate k 48 := by
  induction k with
  | zero => rfl
  | succ k ih => rw [Lib.repeatL, ih, List.replicate_succ]; rfl
theorem grow_below (w : World) (k : Nat) (os : Array Obj) : Below w.heap.size w (Go.Sort.grow (w.drewN k) os) := by
  refine ⟨rfl, rfl, rfl, ?_, fun i hi => ?_⟩
  · show w.heap.size ≤ (w.heap ++ os).size
    rw [Array.size_append]
    omega
  · show (w.heap ++ os)[i]? = w.heap[i]?
    rw [Array.getElem?_append_left hi]
theorem wrap_8 (k : Nat) (h : k ≤ 8) : wrap64 (8 - (k : Int)) = ((8 - k : Nat) : Int) := by
  unfold wrap64
  omega
set_option maxRecDepth 100000 in
set_option maxHeartbeats 1600000 in
theorem nameOf_any (n : Nat) (hn : n ≤ 99999999) (w : World) (hB : Base w) : Calls Tryz.prog 101 #[.int .i64 (n : Int)] w fun e w' => e = .returned (.string (str (segN n))) ∧ Below w.heap.size w w' := by
  obtain ⟨hl, hp⟩ := padded 8 n (by simpa using by omega) (by omega)
  have HI := Lib.hid (Tryz.strconv_Itoa (n : Int) (by omega) (by omega) w hB.1)
  rw [show Lib.itoa (n : Int) = Lib.decDigits n by rw [Lib.itoa, if_neg (by omega), Int.toNat_natCast]] at HI
  generalize Lib.decDigits n = x at *
  obtain ⟨k, hk⟩ : ∃ k, x.length = k := ⟨_, rfl⟩
  have HK := Lib.hid hk
  have HP := Lib.hid hp
  rw [hk] at hl hp HP
  clear hp hk hB
  go_enter Tryz.func101, Tryz.ntmps101
  go_wp2_with fail
  refine HI.out.mono ?_
  rintro e w1 ⟨rfl, q, os, rfl⟩
  have HB1 := Lib.hid (grow_below w q os)
  generalize Go.Sort.grow (w.drewN q) os = w1 at *
  have e1 := wrap_8 k hl
  rw [← HK.out] at e1
  go_wp2_with fail
  have HR := Tryz.strings_Repeat ⟨#[48]⟩ (8 - x.length) w1 (by omega) (by rw [HK.out]; show 1 * _ ≤ _; omega)
  rw [show (⟨#[48]⟩ : ByteArray).data.toList = [48] from rfl, rep_zero] at HR
  refine HR.mono ?_
  rintro e w2 ⟨rfl, hb2⟩
  have HB2 := Lib.hid hb2
  clear hb2 HR
  have HX := Lib.hid (show pre ++ (List.replicate (8 - x.length) 48 ++ x) = segN n by rw [segN, ← HP.out, HK.out])
  have hlr : (List.replicate (8 - x.length) (48 : UInt8)).length ≤ 8 := by simp
  generalize List.replicate (8 - x.length) (48 : UInt8) = r at *
  have p1 : ∀ W : World, (Op.stringOp .add ⟨#[119, 97, 108, 45]⟩ ⟨r.toArray⟩).run Tryz.prog W = .ok (.string ⟨(pre ++ r).toArray⟩) W := fun W => run_string_add_lists W pre r (by decide) (by omega)
  have p2 : ∀ W : World, (Op.stringOp .add ⟨(pre ++ r).toArray⟩ ⟨x.toArray⟩).run Tryz.prog W = .ok (.string ⟨((pre ++ r) ++ x).toArray⟩) W := fun W => run_string_add_lists W (pre ++ r) x (by rw [List.length_append]; show ((4 + r.length : Nat) : Int) ≤ _; omega) (by have := HK.out; omega)
  rw [List.append_assoc, HX.out] at p2
  generalize pre ++ r = y at *
  go_wp2
  go_ret
  exact ⟨rfl, HB1.out.trans (HB2.out.mono HB1.out.size)⟩
theorem alloc_below (w : World) (o : Obj) : Below w.heap.size w (w.alloc o) := (Below.refl _ _).alloc (Nat.le_refl _) o
set_option maxRecDepth 100000 in
theorem segname_any (n : Nat) (a b : Value) (hn : n ≤ 99999999) (w : World) (hB : Base w) : Calls Tryz.prog 80 #[.agg #[.int .i64 (n : Int), a, b]] w fun e w' => e = .returned (.string (str (segN n))) ∧ Below w.heap.size w w' := by
  have HB1 := Lib.hid (alloc_below w (.cells #[.int .i64 (n : Int), a, b] 110))
  have HN := Lib.hid (nameOf_any n hn _ (hB.below HB1.out))
  clear hB
  go_enter Tryz.func80, Tryz.ntmps80
  go_wp2_with fail
  refine HN.out.mono ?_
  rintro e w' ⟨rfl, hb⟩
  have HB := Lib.hid hb
  clear hb
  go_wp2
  go_ret
  exact ⟨rfl, HB1.out.trans (HB.out.mono HB1.out.size)⟩

theorem parse_m : ∀ (l : List UInt8) (acc : Nat), acc * 10 ^ l.length + 10 ^ l.length ≤ 100000000 →
    Lib.parseUintM (2 ^ 64 - 1) acc l = if l.all isDig then .ok (l.foldl (fun a c => a * 10 + (c.toNat - 48)) acc) else Lib.NumEnd.syntax
  | [], acc, _ => rfl
  | c :: r, acc, h => by
    have hp : 0 < 10 ^ r.length := Nat.pow_pos (by omega)
    have h2 : (acc * 10) * 10 ^ r.length + 10 * 10 ^ r.length ≤ 100000000 := by
      have : 10 ^ (c :: r).length = 10 * 10 ^ r.length := by rw [List.length_cons, Nat.pow_succ, Nat.mul_comm]
      rw [this] at h
      rw [Nat.mul_assoc]
      exact h
    have ha : acc * 10 + 10 ≤ 100000000 := by
      have : (acc * 10 + 10) * 1 ≤ (acc * 10 + 10) * 10 ^ r.length := Nat.mul_le_mul_left _ hp
      have h5 : (acc * 10 + 10) * 10 ^ r.length = acc * 10 * 10 ^ r.length + 10 * 10 ^ r.length := Nat.add_mul _ _ _
      omega
    unfold Lib.parseUintM
    by_cases hd : 48 ≤ c.toNat ∧ c.toNat ≤ 57
    · rw [if_pos hd, if_neg (by omega), if_neg (by omega), parse_m r _ ?_]
      · have : isDig c = true := by unfold isDig; simp; exact hd
        rw [List.all_cons, this, Bool.true_and, List.foldl_cons]
      · have h3 : (acc * 10 + (c.toNat - 48)) * 10 ^ r.length ≤ (acc * 10 + 9) * 10 ^ r.length := Nat.mul_le_mul_right _ (by omega)
        have h4 : (acc * 10 + 9) * 10 ^ r.length = acc * 10 * 10 ^ r.length + 9 * 10 ^ r.length := Nat.add_mul _ _ _
        omega
    · rw [if_neg hd]
      have : isDig c = false := by
        unfold isDig
        rw [Bool.eq_false_iff]
        simp only [ne_eq, Bool.and_eq_true, decide_eq_true_eq]
        exact hd
      rw [List.all_cons, this]
      rfl
theorem parse_8 (l : List UInt8) (h : l.length = 8) : Lib.parseUintB 64 l = if l.all isDig then .ok (dval l) else Lib.NumEnd.syntax := by
  unfold Lib.parseUintB
  rw [if_neg (by rintro rfl; simp at h), parse_m l 0 (by rw [h]; decide)]
  rfl
theorem pre_of {x : Nm} (h : Lib.hasPrefix x pre = true) : x = pre ++ x.drop 4 ∧ Lib.trimPrefix x pre = x.drop 4 := by
  refine ⟨?_, by rw [Lib.trimPrefix, if_pos h]; rfl⟩
  unfold Lib.hasPrefix at h
  obtain ⟨y, rfl⟩ := List.isPrefixOf_iff_prefix.1 h
  rfl
theorem shape_of {x : Nm} (h : Lib.hasPrefix x pre = true) (hl : (x.drop 4).length = 8) : shape x = (x.drop 4).all isDig := by
  obtain ⟨h1, _⟩ := pre_of h
  have h2 : x.take 4 = pre := by rw [h1]; simp [pre]
  have h3 : x.length = 12 := by
    rw [List.length_drop] at hl
    omega
  unfold shape
  rw [h2, h3]
  simp
theorem shape_no {x : Nm} (h : Lib.hasPrefix x pre = false ∨ (x.drop 4).length ≠ 8) : shape x = false := by
  unfold shape
  rcases h with h | h
  · have : (x.take 4 == pre) = false := by
      rw [beq_eq_false_iff_ne]
      intro he
      have : Lib.hasPrefix x pre = true := by
        unfold Lib.hasPrefix
        rw [List.isPrefixOf_iff_prefix]
        exact ⟨x.drop 4, by rw [← he, List.take_append_drop]⟩
      rw [this] at h
      cases h
    rw [this]
    simp
  · rw [List.length_drop] at h
    have : decide (x.length = 12) = false := decide_eq_false (by omega)
    rw [this]
    rfl
def NumIs (x : Nm) (w : World) (e : Ending) (w' : World) : Prop := ∃ v : Int, e = .returned (.tuple #[.int .i64 v, .bool (decide (0 < numOf x))]) ∧ (0 < numOf x → v = (numOf x : Int)) ∧ Below w.heap.size w w'
theorem numIs_no {x : Nm} {w w' : World} (h : shape x = false) (v : Int) (hb : Below w.heap.size w w') : NumIs x w (.returned (.tuple #[.int .i64 v, .bool false])) w' := by
  have : numOf x = 0 := by unfold numOf; rw [h]; rfl
  exact ⟨v, by rw [this]; rfl, by rw [this]; omega, hb⟩
set_option maxRecDepth 100000 in
set_option maxHeartbeats 1600000 in
theorem numberOf_any (s : ByteArray) (w : World) (hB : Base w) : Calls Tryz.prog 137 #[.string s] w (NumIs s.data.toList w) := by
  have HC := Lib.hid (Tryz.strings_CutPrefix s ⟨#[119, 97, 108, 45]⟩ w)
  rw [show (⟨#[119, 97, 108, 45]⟩ : ByteArray).data.toList = pre from rfl] at HC
  have HBB := Lib.hid hB
  clear hB
  generalize s.data.toList = x at *
  cases hp : Lib.hasPrefix x pre with
  | false =>
    rw [hp] at HC
    have HS := Lib.hid (shape_no (.inl hp))
    generalize Lib.trimPrefix x pre = y at *
    go_enter Tryz.func137, Tryz.ntmps137
    go_wp2_with (go_at_call 163; refine HC.out.mono ?_; rintro e w' ⟨rfl, rfl⟩)
    go_ret2
    exact numIs_no HS.out 0 (Below.refl _ _)
  | true =>
    obtain ⟨_, ht⟩ := pre_of hp
    rw [hp, ht] at HC
    by_cases hl : (x.drop 4).length = 8
    · have HS := Lib.hid (shape_of hp hl)
      have hpar := parse_8 _ hl
      have HNum := Lib.hid (show numOf x = if shape x then dval (x.drop 4) else 0 from rfl)
      have hlt := fun h => (dval_lt 8 (x.drop 4) hl h).1
      clear hp ht
      generalize x.drop 4 = y at *
      cases hd : y.all isDig with
      | false =>
        rw [hd] at HS hpar
        obtain ⟨_, te, pe, hc⟩ := HBB.out
        have HPU := Lib.hid (Tryz.strconv_ParseUint_10_at64_syntax ⟨y.toArray⟩ (by show y.toArray.size ≤ _; simp; omega) (by simpa using hpar) (.iface te pe) w hc (.inr ⟨_, _, rfl⟩))
        clear hc
        have j1 : decide (((⟨y.toArray⟩ : ByteArray).size : Int) = 8) = true := by simp [ByteArray.size]; omega
        go_enter Tryz.func137, Tryz.ntmps137
        go_wp2_with (first | (go_at_call 163; refine HC.out.mono ?_; rintro e w' ⟨rfl, rfl⟩) | (go_at_call 164; refine HPU.out.mono ?_; rintro e w' ⟨N, rfl, _, _, hb⟩; have HB1 := Lib.hid hb; clear hb))
        go_ret2
        exact numIs_no HS.out _ HB1.out
      | true =>
        rw [hd] at HS hpar
        have hlt := hlt hd
        rw [HS.out] at HNum
        have HN2 := Lib.hid HNum.out
        clear HNum
        rw [if_pos rfl] at HN2 hpar
        have HPU := Lib.hid (Tryz.strconv_ParseUint_10_at64_ok ⟨y.toArray⟩ (by show y.toArray.size ≤ _; simp; omega) (dval y) (by simpa using hpar) w)
        have j1 : decide (((⟨y.toArray⟩ : ByteArray).size : Int) = 8) = true := by simp [ByteArray.size]; omega
        generalize dval y = d at *
        have hd8 : d < 100000000 := by simpa using hlt
        go_enter Tryz.func137, Tryz.ntmps137
        go_wp2_with (first | (go_at_call 163; refine HC.out.mono ?_; rintro e w' ⟨rfl, rfl⟩) | (go_at_call 164; refine HPU.out.mono ?_; rintro e w' ⟨rfl, hb⟩; have HB1 := Lib.hid hb; clear hb))
        go_ret2
        refine ⟨(d : Int), by rw [HN2.out]; rfl, fun _ => by rw [HN2.out], ?_⟩
        rcases HB1.out with rfl | rfl
        · exact Below.refl _ _
        · exact Lib.bytesWorld_below _ _ _
    · have HS := Lib.hid (shape_no (x := x) (.inr hl))
      clear hp ht
      generalize x.drop 4 = y at *
      have j1 : decide (((⟨y.toArray⟩ : ByteArray).size : Int) = 8) = false := by simp [ByteArray.size]; omega
      go_enter Tryz.func137, Tryz.ntmps137
      go_wp2_with (go_at_call 163; refine HC.out.mono ?_; rintro e w' ⟨rfl, rfl⟩)
      go_ret2
      exact numIs_no HS.out 0 (Below.refl _ _)
end Go.Proofs.YtnppomiggajhnaaGreatDoor.Wl

namespace Go.Proofs.YtnppomiggajhnaaGreatDoor.Dk
open Go.RowKit Go.Proofs.YtnppomiggajhnaaGreatDoor.Fld

def CrR (w1 : World) (g b : Nat) (m : List Ent) (t : St) (ks : List Int) (i : Value) (wr : World) : Prop := ∃ k : Nat, k ≤ m.length ∧ i = .int .i64 (k : Int) ∧ Left w1 g b m { t with fs := crashTo k ks t.fs } wr
/-- the entry of a round -/
theorem crash_ent {wr w1 : World} {g b : Nat} {m m' : List Ent} {t : St} {ks : List Int} {k : Nat} (h : Im w1 g b m t) (h' : Im wr g b m' { t with fs := crashTo k ks t.fs }) (hk : k < m.length) :
    ∃ e f, found m' ((m.map fun e => (⟨e.nm.toArray⟩ : ByteArray)).getD k ⟨#[]⟩) = some e ∧ t.fs[k]? = some f ∧ e.fil = f ∧ ((m.map fun e => (⟨e.nm.toArray⟩ : ByteArray)).getD k ⟨#[]⟩).data.toList = f.1 := by
  have hkl : k < t.fs.length := by rw [← h.len]; exact hk
  obtain ⟨f, hf⟩ : ∃ f, t.fs[k]? = some f := ⟨_, List.getElem?_eq_getElem hkl⟩
  have hk' : k < m'.length := by rw [h'.len]; simp only [crashTo_len]; exact hkl
  have hef : (m'[k]).fil = f := by
    have h1 : (m'.map Ent.fil)[k]? = some f := by
      rw [← h'.fs]
      show (crashTo k ks t.fs)[k]? = _
      rw [crashTo_at, hf]
      simp
    rw [List.getElem?_map, List.getElem?_eq_getElem hk', Option.map_some] at h1
    exact Option.some.inj h1
  have hnm : ((m.map fun e => (⟨e.nm.toArray⟩ : ByteArray)).getD k ⟨#[]⟩).data.toList = f.1 := by
    have h1 : (m.map Ent.fil)[k]? = some f := by rw [← h.fs]; exact hf
    rw [List.getElem?_map, List.getElem?_eq_getElem hk, Option.map_some] at h1
    have h2 := Option.some.inj h1
    rw [List.getD_eq_getElem?_getD, List.getElem?_map, List.getElem?_eq_getElem hk, Option.map_some, Option.getD_some]
    rw [← h2]
    rfl
  refine ⟨m'[k], f, ?_, hf, hef, hnm⟩
  unfold found
  rw [hnm, ← hef]
  exact get_mem h'.up (List.getElem_mem hk')
theorem wrap64_in (x : Int) (h1 : -1000000000 ≤ x) (h2 : x ≤ 1000000000) : wrap64 x = x := by unfold wrap64; omega
set_option maxRecDepth 100000 in
set_option maxHeartbeats 3200000 in
theorem crash_any (g b : Nat) (m : List Ent) (t : St) (A : Option Addr) (n cap : Nat) (ks : List Int) (w : World) (h : Im w g b m t) (hm : t.fs.length ≤ 1000000) (hr : RdI w A n ks) (hA : 0 < n → ∀ a, A = some a → a.block ∉ g :: b :: blks m) :
    Calls Tryz.prog 17 #[.pointer (some ⟨g, 0, none⟩), .slice A n cap] w fun e w' => e = .returned (.tuple #[]) ∧ Left w g b m (stCrash ks t) w' := by
  have hml : m.length ≤ 1000000 := by rw [h.len]; exact hm
  have HI := Lib.hid h
  have HN := Lib.hid (names_any g b m t w h hm)
  have HR := Lib.hid hr
  have HA := Lib.hid hA
  have hnl := hr.2.1
  have HKL := Lib.hid hr.1
  unfold maxLen at hnl
  clear h hr hA
  go_enter Tryz.func17, Tryz.ntmps17
  go_wp2_with (go_at_call 33; refine HN.out.mono ?_; rintro e w1 ⟨NA, ncap, rfl, hRS, hNb, hB⟩; have HRS := Lib.hid hRS; have HNB := Lib.hid hNb; have HB := Lib.hid hB; clear hRS hNb hB)
  have HI1 := Lib.hid (HI.out.below HB.out)
  have HLT := Lib.hid HI.out.lt
  have HRK := Lib.hid (HR.out.fr (Fr.below (S := []) HB.out) (by simp))
  go_loopw [11] (fun i wr => CrR w1 g b m t ks i wr) (fun i _ => m.length - (intOf i).toNat)
  case atStart => exact ⟨0, Nat.zero_le _, rfl, by rw [crashTo_zero]; exact Left.same HI1.out⟩
  case round =>
    obtain ⟨k, hk, rfl, hL⟩ := hrel
    obtain ⟨m', hI', hF', hb'⟩ := hL
    by_cases hlt : k < m.length
    · obtain ⟨e, f, hfd, hfk, hef, hnm⟩ := crash_ent HI1.out hI' hlt
      have hRS := HRS.out.fr hF' (by
        intro a ha hmm
        have h1 := HNB.out a ha
        have h2 := HLT.out _ hmm
        omega)
      have hRK := HRK.out.fr hF' HA.out
      obtain ⟨nb, noff, rfl, hnc⟩ := hRS.2.2 (by omega)
      have hcn := hnc k hlt
      clear hnc
      generalize (m.map fun e => (⟨e.nm.toArray⟩ : ByteArray)).getD k ⟨#[]⟩ = s at *
      have hok : okN s.data.toList = true := by rw [hnm]; exact HI1.out.good.name f (List.mem_of_getElem? hfk)
      have hs := size_of_ok hok
      obtain ⟨EA, ecap, hev, hsl⟩ := (hI'.file e (get_some hfd).1).form
      have hes : e.s ≤ e.zs.length := by
        have := hI'.good.synced e.fil (by rw [hI'.fs]; exact List.mem_map.2 ⟨e, (get_some hfd).1, rfl⟩)
        exact this
      have hel : e.zs.length ≤ 16777216 := by
        have h1 := total_del (f := e.fil) hI'.good.up (x := s.data.toList) (by rw [hI'.get, hfd]; rfl)
        have h2 := hI'.good.fits
        have h3 := hI'.good.room2
        have h4 : e.fil.2.1.length = e.zs.length := rfl
        omega
      obtain ⟨c0, c1, c2, c3, c4, c5, c6, c7⟩ := Dsk.cells hI'.dsk
      have hfv : foundV m' s = .agg #[.slice EA e.zs.length ecap, .int .i64 (e.s : Int)] := by unfold foundV; rw [hfd, Option.map_some, Option.getD_some, Ent.val, hev]
      have hlk := look1 hI'.own s hs
      rw [hfv] at hlk
      obtain ⟨K, hK⟩ : ∃ K, K = ks.getD k 0 := ⟨_, rfl⟩
      obtain ⟨E, hE⟩ : ∃ E, E = nstay K e.zs.length e.s := ⟨_, rfl⟩
      have hEl : E ≤ e.zs.length := by rw [hE]; exact nstay_le hes
      have hsv := survivor_any EA e.zs.length ecap e.s K e.zs wr hsl hes hel
      rw [← hE] at hsv
      have hlen : (crashTo k ks t.fs).length ≤ 1000000 := by rw [crashTo_len]; exact hm
      have hTR : total (crashTo k ks t.fs) ≤ 16777216 := Nat.le_trans hI'.good.fits hI'.good.room2
      have hst : ({ ({ t with fs := crashTo k ks t.fs } : St) with fs := fput (s.data.toList, e.zs.take E, E) (crashTo k ks t.fs) } : St) = { t with fs := crashTo (k + 1) ks t.fs } := by
        have h1 := crash_step k ks t.fs hI'.good.up f hfk
        rw [h1, hnm, ← hef, ← hK, hE]
        rfl
      have HMID := Lib.hid (fun (w' : World) (v : Value) (hO : Own wr w' v (e.zs.take E)) => crash_mid (s := s) hI' hlen hs hfd E hEl v hO)
      have HLEFT := Lib.hid (fun (W4 : World) (hL : Left wr g b m' { t with fs := crashTo (k + 1) ks t.fs } W4) => Left.trans (w := w1) (m := m) hF' hb' hL)
      rw [hst] at HMID
      have HD := Lib.hid (fun (w' : World) (hB : Below wr.heap.size wr w') => hI'.below hB)
      have HTL := Lib.hid (show (e.zs.take E).length = E by rw [List.length_take]; omega)
      have HLK := Lib.hid (fun (w' : World) (hB : Below wr.heap.size wr w') (o : Obj) => (look1 (((hI'.below hB).own.alloc o).drew) s hs).trans (by rw [hfv]))
      have HSV := Lib.hid hsv
      clear hsv hst hI' hF' hb' hRS hsl hfv hev hef hfk hfd HRS HNB HI1 HRK HI HN
      have hRK2 := hRK.2.2
      have hcell : k < n → ∃ kb koff, A = some ⟨kb, koff, none⟩ ∧ wr.cell? ⟨kb, koff + k, none⟩ = some (.int .i64 K) := by
        intro hkn
        obtain ⟨kb, koff, h1, h2⟩ := hRK2 (by omega)
        exact ⟨kb, koff, h1, by rw [hK]; exact h2 k hkn⟩
      have hzero : ¬ k < n → K = 0 := by
        intro hkn
        rw [hK, List.getD_eq_getElem?_getD, List.getElem?_eq_none (by rw [hRK.1]; omega)]
        rfl
      clear hRK hRK2 hK HR HA HKL
      simp only at c0 c1 c2 c3 c4 c5 c6 c7
      generalize hT : total (crashTo k ks t.fs) = T at *
      have HTT := Lib.hid hT
      clear hT
      generalize hL : e.zs.length = L at *
      clear hL hE
      have hfld := field0 EA L ecap (e.s : Int)
      by_cases hkn : k < n
      · obtain ⟨kb, koff, rfl, hkc⟩ := hcell hkn
        clear hcell hzero
        go_wp2_with fail
        refine HSV.out.mono ?_
        rintro e2 w' ⟨v, rfl, hO⟩
        obtain ⟨T2, W4, hT2, hup, hLf, _⟩ := HMID.out w' v hO
        have HLf := Lib.hid (HLEFT.out W4 hLf)
        obtain ⟨A2, c2', hv2, _, _⟩ := hO.form E HTL.out
        subst hv2
        have hI2 := HD.out w' hO.1
        have hlk2 := HLK.out w' hO.1
        obtain ⟨d0, d1, d2, d3, d4, d5, d6, d7⟩ := Dsk.cells hI2.dsk
        have z2 := Dsk.free hI2.dsk 2
        have d2' : w'.cell? ⟨g, 2, none⟩ = some (.int .i64 (T : Int)) := by rw [← HTT.out]; exact d2
        clear d2
        have y2 := fun o => cell_past d2' o
        have y1 := fun o => cell_past d1 o
        have e1 : (T : Int) - ((L : Int) - (E : Int)) = (T2 : Int) := by omega
        have e2 : IntKind.i64.wrap ((L : Int) - (E : Int)) = (L : Int) - (E : Int) := IntWalk.i64_in _ (by omega)
        have e3 : IntKind.i64.wrap (T2 : Int) = (T2 : Int) := IntWalk.i64_in _ (by omega)
        have hgw := hI2.dsk.lt
        have e4 : wrap64 (T2 : Int) = (T2 : Int) := wrap64_in _ (by omega) (by omega)
        have e5 : wrap64 ((L : Int) - (E : Int)) = (L : Int) - (E : Int) := wrap64_in _ (by omega) (by omega)
        clear hO hI2 hLf hT2 HMID HLEFT HSV HD HLK
        go_wp2_with fail
        go_region
        go_wp2_with fail
        go_region
        go_wp2
        go_roundw
        case rel => exact ⟨k + 1, by omega, by go_num, HLf.out⟩
        case measure => simp [intOf]; omega
      · obtain rfl := hzero hkn
        clear hcell hzero
        go_wp2_with fail
        refine HSV.out.mono ?_
        rintro e2 w' ⟨v, rfl, hO⟩
        obtain ⟨T2, W4, hT2, hup, hLf, _⟩ := HMID.out w' v hO
        have HLf := Lib.hid (HLEFT.out W4 hLf)
        obtain ⟨A2, c2', hv2, _, _⟩ := hO.form E HTL.out
        subst hv2
        have hI2 := HD.out w' hO.1
        have hlk2 := HLK.out w' hO.1
        obtain ⟨d0, d1, d2, d3, d4, d5, d6, d7⟩ := Dsk.cells hI2.dsk
        have z2 := Dsk.free hI2.dsk 2
        have d2' : w'.cell? ⟨g, 2, none⟩ = some (.int .i64 (T : Int)) := by rw [← HTT.out]; exact d2
        clear d2
        have y2 := fun o => cell_past d2' o
        have y1 := fun o => cell_past d1 o
        have e1 : (T : Int) - ((L : Int) - (E : Int)) = (T2 : Int) := by omega
        have e2 : IntKind.i64.wrap ((L : Int) - (E : Int)) = (L : Int) - (E : Int) := IntWalk.i64_in _ (by omega)
        have e3 : IntKind.i64.wrap (T2 : Int) = (T2 : Int) := IntWalk.i64_in _ (by omega)
        have hgw := hI2.dsk.lt
        have e4 : wrap64 (T2 : Int) = (T2 : Int) := wrap64_in _ (by omega) (by omega)
        have e5 : wrap64 ((L : Int) - (E : Int)) = (L : Int) - (E : Int) := wrap64_in _ (by omega) (by omega)
        clear hO hI2 hLf hT2 HMID HLEFT HSV HD HLK
        go_wp2_with fail
        go_region
        go_wp2_with fail
        go_region
        go_wp2
        go_roundw
        case rel => exact ⟨k + 1, by omega, by go_num, HLf.out⟩
        case measure => simp [intOf]; omega
    · obtain rfl : k = m.length := by omega
      have hS : ({ ({ t with fs := crashTo m.length ks t.fs } : St) with off := false, fail := none, arm := none } : St) = stCrash ks t := by
        unfold stCrash
        rw [← HI1.out.len]
      obtain ⟨c0, c1, c2, c3, c4, c5, c6, c7⟩ := Dsk.cells hI'.dsk
      have z3 := Dsk.free hI'.dsk 3
      have z4 := Dsk.free hI'.dsk 4
      have z5 := Dsk.free hI'.dsk 5
      have z6 := Dsk.free hI'.dsk 6
      have z7 := Dsk.free hI'.dsk 7
      have hRS := hI'.restart
      rw [hS] at hRS
      have HF := Lib.hid (show Left w g b m (stCrash ks t) _ from Left.after (Fr.below (S := []) HB.out) (by simp) (Left.trans hF' hb' ⟨m', hRS.1, hRS.2.mono (by simp), fun i hi => .inl hi⟩))
      clear hI' hF' hb' hRS hS
      go_wp2
      go_end0
      exact ⟨rfl, HF.out⟩
end Go.Proofs.YtnppomiggajhnaaGreatDoor.Dk

namespace Go.Proofs.YtnppomiggajhnaaGreatDoor.Wl
open Go.RowKit Go.ChangeShapes Go.WideShapes
set_option linter.unusedVariables false

def laidL : List (String × DataW Unit) := [("math/bits.deBruijn32tab", Rows.laid_math_bits_deBruijn32tab), ("math/bits.deBruijn64tab", Rows.laid_math_bits_deBruijn64tab), ("internal/strconv.uint64pow10", Rows.laid_internal_strconv_uint64pow10), ("strconv.ErrRange", Rows.laid_strconv_ErrRange), ("strconv.ErrSyntax", Rows.laid_strconv_ErrSyntax)]
theorem own : ownKnob Tryz.prog.godebug = none := by kernel_rfl
theorem laidOut : laidOutB Tryz.prog = true := by kernel_rfl
set_option maxRecDepth 100000 in
theorem door_met (os : Os) (args : Array Value) : laidMetH Tryz.prog laidL ((World.doorLaid Tryz.prog 62 os).forCall (fun _ _ => 0) ⟨#[], args, []⟩).memory :=
  laidMetH_of_parts3 (fuel := 8) (laidMet_of_run' 8 (by kernel_rfl) (by kernel_rfl)) (by kernel_rfl) (by kernel_rfl)
theorem pow_data : (Rows.laid_internal_strconv_uint64pow10 : DataW Unit) = Lib.tabData .u64 Lib.pow10Tab := by kernel_rfl
theorem gPow : Tryz.prog.globalNamed "internal/strconv.uint64pow10" = some 2 := by kernel_rfl
theorem gSyn : Tryz.prog.globalNamed "strconv.ErrSyntax" = some 0 := by kernel_rfl
theorem base_of_laid {W : World} (h : laidMetH Tryz.prog laidL W) : Base W := by
  rw [MakeChecks.laidMetH_plain _ _ _ (by kernel_rfl)] at h
  have h2 := h.tail.tail
  have h3 := h2.tail.tail
  refine ⟨?_, ?_⟩
  · rw [pow_data] at h2
    exact Lib.tabIs_of_head (t := 260) (e := 162) (n := 20) gPow (by kernel_rfl) (by kernel_rfl) (by kernel_rfl) (by kernel_rfl) (by kernel_rfl) h2
  · obtain ⟨ps, ⟨g, t, cs, fuel, p, q, hg, ht, hv, hd, _⟩, _⟩ := h3
    obtain rfl := Option.some.inj (gSyn.symm.trans hg)
    obtain rfl := Option.some.inj ((show (Tryz.prog.globals[0]?).map (·.type) = some 179 by kernel_rfl).symm.trans ht)
    obtain ⟨_, u, v, hc, _, _⟩ := iface_of_trod Tryz.underlying179 hd
    have h4 := World.var?_cell hg hv 0
    rw [Array.eq_one_of_toList hc] at h4
    exact ⟨u, v, by simpa using h4⟩
end Go.Proofs.YtnppomiggajhnaaGreatDoor.Wl
