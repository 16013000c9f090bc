/-
  Several texts in one: Layer 6: the closures of shorten and removeRest in the program. Conditions: the Wal and its disk lie in memory (WmX), the closures' variables hold what they captured. How many files a change of the disk may add: one. No condition. Layer 6: a write and a sync of the last segment, by run; a segment more in memory. Conditions: the Wal and its disk lie in memory (WmX). Layer 6: removeFresh in the program: what a repair that was broken off has left is unlinked. Conditions: the Wal and its disk lie in memory (WmX). The plain mathematics of layer 6: which segments a scan has found, and how large the last one is. No condition but those that each theorem states. Layer 6: entries as they come in, in memory, and valid. Conditions: as each theorem states.
-/
import Derived.Test.YtnppomiggajhnaaGreatDoorJDiskSn
import Derived.Deep.RegionHeld3
import Derived.Test.YtnppomiggajhnaaGreatDoorJWalLog
import Derived.Test.YtnppomiggajhnaaGreatDoorJWalEnt
import Derived.Test.YtnppomiggajhnaaGreatDoorJDiskRead
namespace Go.Proofs.YtnppomiggajhnaaGreatDoor.Wl
open Go.RowKit Go.Proofs.YtnppomiggajhnaaGreatDoor.Fld
set_option linter.unusedVariables false

theorem run_upto (A : Option Addr) (n cap u : Nat) (hA : A = none → cap = 0) (hu : u ≤ cap) (W : World) : (Instr.slice 61 (.slice A n cap) none (some (.int .i64 (u : Int))) none).run Tryz.prog W = .ok (.slice A u cap) W := by
  cases A with
  | some a =>
    have h1 : (0 : Int) ≤ (u : Int) := by omega
    have h3 : (u : Int) ≤ (cap : Int) := by omega
    go_simp
  | none =>
    obtain rfl := hA rfl
    obtain rfl : u = 0 := by omega
    go_simp
theorem stp_off {W g b : Nat} {m : List Dk.Ent} {ve vs : Value} {i : Nat} (h : i ∉ WFt W g b m ve vs) : i ∉ g :: b :: Dk.blks m := fun hm => h (wft_disk _ hm)
set_option maxRecDepth 100000 in
set_option maxHeartbeats 3200000 in
theorem short1_any {lo W g b lim : Nat} {m : List Dk.Ent} {ve vs : Value} {xs : List EA} {w : World} {c : Ct} {t : Dk.St} (h : WmX lo W g b lim m ve vs xs w c t) (hm : t.fs.length ≤ 900000) (bw bb bl : Nat) (hw : w.cell? ⟨bw, 0, none⟩ = some (.pointer (some ⟨W, 0, none⟩))) (a : Addr) (n cap : Nat) (ys : List Int) (hb : w.cell? ⟨bb, 0, none⟩ = some (.slice (some a) n cap)) (hr : Rd w (some a) n ys) (hnc : n ≤ cap) (hc : n ≤ 16777216) (sz : Nat) (hs : w.cell? ⟨bl, 2, none⟩ = some (.int .i64 (sz : Int))) (hsz : sz ≤ n) (hbF : bw ∉ WFt W g b m ve vs) (hbF2 : bb ∉ WFt W g b m ve vs) (hbF3 : bl ∉ WFt W g b m ve vs) :
    Calls Tryz.prog 95 #[.pointer (some ⟨bw, 0, none⟩), .pointer (some ⟨bb, 0, none⟩), .pointer (some ⟨bl, 0, none⟩)] w (StpI lo W g b lim (WFt W g b m ve vs) w (spDisk (Dk.stAppend freshN (ys.take sz)) c t)) := by
  have HX := Lib.hid h
  have c0 := h.ct.blk.cell 0 (.pointer (some ⟨g, 0, none⟩)) rfl
  have HU := Lib.hid (fun (w' : World) (hb : Below w.heap.size w w') => show Calls Tryz.prog 35 #[.pointer (some ⟨g, 0, none⟩), .string ⟨freshN.toArray⟩, .slice (some a) sz cap] w' (Dk.Did w' g b m (Dk.stAppend freshN (ys.take sz) t)) from
    Dk.app_did g b m t ⟨freshN.toArray⟩ (some a) sz cap (ys.take sz) w' (h.im.below hb) (by omega) ((hr.below hb).cut sz hsz) (fun h => by cases h) (by omega))
  have HO1 := Lib.hid (stp_off hbF)
  have HO2 := Lib.hid h.W_off
  have HO3 := Lib.hid (stp_off hbF2)
  have HO4 := Lib.hid (stp_off hbF3)
  have hsl : ∀ W : World, (Instr.slice 61 (.slice (some a) n cap) none (some (.int .i64 (sz : Int))) none).run Tryz.prog W = .ok (.slice (some a) sz cap) W := run_upto (some a) n cap sz (fun h => by cases h) (by omega)
  clear h hr hbF hbF2 hbF3
  go_enter Tryz.func95, Tryz.ntmps95
  go_wp2_with fail
  go_region_held3 (fun w' => w'.cell? ⟨bw, 0, none⟩ = some (.pointer (some ⟨W, 0, none⟩)) ∧ w'.cell? ⟨W, 0, none⟩ = some (.pointer (some ⟨g, 0, none⟩)) ∧ w'.cell? ⟨bb, 0, none⟩ = some (.slice (some a) n cap) ∧ w'.cell? ⟨bl, 2, none⟩ = some (.int .i64 (sz : Int))) (first | exact ⟨by assumption, by assumption, by assumption, by assumption⟩ | go_keep) ((go_at_call 35; refine (HU.out _ (by first | exact Below.refl _ _ | exact (Below.refl _ _).drew)).mono ?_; rintro e w3 ⟨rfl, m3, hL3⟩; have HLM := Lib.hid (show Kp.LeftM w g b m m3 w3 from (by first | exact ⟨hL3.2.1, hL3.2.2⟩ | exact (Kp.LeftM.below (Below.refl _ _).drew).trans ⟨hL3.2.1, hL3.2.2⟩)); have HF := Lib.hid (StpI.disk HX.out hL3.1 HLM.out (Dk.stAppend freshN (ys.take sz) t).1); have r0 := HLM.out.1.cell hw HO1.out; have r1 := HLM.out.1.cell c0 HO2.out; have r2 := HLM.out.1.cell hb HO3.out; have r3 := HLM.out.1.cell hs HO4.out; clear hL3))
  go_wp2
  go_ret
  exact HF.out
set_option maxRecDepth 100000 in
set_option maxHeartbeats 3200000 in
theorem short2_any {lo W g b lim : Nat} {m : List Dk.Ent} {ve vs : Value} {xs : List EA} {w : World} {c : Ct} {t : Dk.St} (h : WmX lo W g b lim m ve vs xs w c t) (hm : t.fs.length ≤ 900000) (bw : Nat) (hw : w.cell? ⟨bw, 0, none⟩ = some (.pointer (some ⟨W, 0, none⟩))) :
    Calls Tryz.prog 96 #[.pointer (some ⟨bw, 0, none⟩)] w (StpI lo W g b lim (WFt W g b m ve vs) w (spDisk (Dk.stSync freshN) c t)) := by
  have HX := Lib.hid h
  have c0 := h.ct.blk.cell 0 (.pointer (some ⟨g, 0, none⟩)) rfl
  have HU := Lib.hid (show Calls Tryz.prog 37 #[.pointer (some ⟨g, 0, none⟩), .string ⟨freshN.toArray⟩] w (Dk.Did w g b m (Dk.stSync freshN t)) from Dk.sync_did g b m t ⟨freshN.toArray⟩ w h.im (by omega))
  clear h
  go_enter Tryz.func96, Tryz.ntmps96
  go_wp2_with fail
  refine HU.out.mono ?_
  rintro e w3 ⟨rfl, m3, hL3⟩
  have HF := Lib.hid (StpI.disk HX.out hL3.1 ⟨hL3.2.1, hL3.2.2⟩ (Dk.stSync freshN t).1)
  clear hL3
  go_wp2
  go_ret
  exact HF.out
set_option maxRecDepth 100000 in
set_option maxHeartbeats 3200000 in
theorem short3_any {lo W g b lim : Nat} {m : List Dk.Ent} {ve vs : Value} {xs : List EA} {w : World} {c : Ct} {t : Dk.St} (h : WmX lo W g b lim m ve vs xs w c t) (hm : t.fs.length ≤ 900000) (bw bl : Nat) (hw : w.cell? ⟨bw, 0, none⟩ = some (.pointer (some ⟨W, 0, none⟩))) (num : Nat) (x y : Value) (hn : num ≤ 99999999) (hs0 : w.cell? ⟨bl, 0, none⟩ = some (.int .i64 (num : Int))) (hs1 : w.cell? ⟨bl, 1, none⟩ = some x) (hs2 : w.cell? ⟨bl, 2, none⟩ = some y) (hbF : bw ∉ WFt W g b m ve vs) (hbF3 : bl ∉ WFt W g b m ve vs) :
    Calls Tryz.prog 97 #[.pointer (some ⟨bw, 0, none⟩), .pointer (some ⟨bl, 0, none⟩)] w (StpI lo W g b lim (WFt W g b m ve vs) w (spDisk (Dk.stRename freshN (segN num)) c t)) := by
  have HX := Lib.hid h
  have c0 := h.ct.blk.cell 0 (.pointer (some ⟨g, 0, none⟩)) rfl
  have HNM := Lib.hid (fun (w' : World) (hb : Below w.heap.size w w') => segname_any num x y hn w' (h.below hb).base)
  have HU := Lib.hid (fun (w' : World) (hb : Below w.heap.size w w') => show Calls Tryz.prog 98 #[.pointer (some ⟨g, 0, none⟩), .string ⟨freshN.toArray⟩, .string (str (segN num))] w' (Dk.Did w' g b m (Dk.stRename freshN (segN num) t)) from by
    have := Dk.ren_did g b m t ⟨freshN.toArray⟩ (str (segN num)) w' (h.im.below hb) (by omega)
    rwa [str_data] at this)
  have HO1 := Lib.hid (stp_off hbF)
  have HO2 := Lib.hid h.W_off
  have HO4 := Lib.hid (stp_off hbF3)
  clear h hbF hbF3
  go_enter Tryz.func97, Tryz.ntmps97
  go_wp2_with fail
  go_region_held3 (fun w' => w'.cell? ⟨bw, 0, none⟩ = some (.pointer (some ⟨W, 0, none⟩)) ∧ w'.cell? ⟨W, 0, none⟩ = some (.pointer (some ⟨g, 0, none⟩)) ∧ w'.cell? ⟨bl, 0, none⟩ = some (.int .i64 (num : Int)) ∧ w'.cell? ⟨bl, 1, none⟩ = some x ∧ w'.cell? ⟨bl, 2, none⟩ = some y) (first | exact ⟨by assumption, by assumption, by assumption, by assumption, by assumption⟩ | go_keep) (first
    | (go_at_call 80; refine (HNM.out _ (by first | exact Below.refl _ _ | exact (Below.refl _ _).drew)).mono ?_; rintro e w2 ⟨rfl, hb2⟩; have HB2 := Lib.hid (show Below w.heap.size w w2 from (by first | exact hb2 | exact (Below.refl _ _).drew.trans hb2)); have q0 := (HB2.out.cell (lt_of_cell hw)).trans hw; have q1 := (HB2.out.cell (lt_of_cell c0)).trans c0; have q2 := (HB2.out.cell (lt_of_cell hs0)).trans hs0; have q3 := (HB2.out.cell (lt_of_cell hs1)).trans hs1; have q4 := (HB2.out.cell (lt_of_cell hs2)).trans hs2; clear hb2)
    | (go_at_call 98; refine (HU.out _ (by first | exact HB2.out | exact HB2.out.drew)).mono ?_; rintro e w3 ⟨rfl, m3, hL3⟩; have HLM := Lib.hid (show Kp.LeftM w g b m m3 w3 from (by first | exact (Kp.LeftM.below HB2.out).trans ⟨hL3.2.1, hL3.2.2⟩ | exact (Kp.LeftM.below HB2.out.drew).trans ⟨hL3.2.1, hL3.2.2⟩)); have HF := Lib.hid (StpI.disk HX.out hL3.1 HLM.out (Dk.stRename freshN (segN num) t).1); have r0 := HLM.out.1.cell hw HO1.out; have r1 := HLM.out.1.cell c0 HO2.out; have r2 := HLM.out.1.cell hs0 HO4.out; have r3 := HLM.out.1.cell hs1 HO4.out; have r4 := HLM.out.1.cell hs2 HO4.out; clear hL3))
  go_wp2
  go_ret
  exact HF.out
set_option maxRecDepth 100000 in
set_option maxHeartbeats 3200000 in
theorem rest1_any {lo W g b lim : Nat} {m : List Dk.Ent} {ve vs : Value} {xs : List EA} {w : World} {c : Ct} {t : Dk.St} (h : WmX lo W g b lim m ve vs xs w c t) (bw bn : Nat) (hw : w.cell? ⟨bw, 0, none⟩ = some (.pointer (some ⟨W, 0, none⟩))) (num : Nat) (hn : num ≤ 99999999) (hs0 : w.cell? ⟨bn, 0, none⟩ = some (.int .i64 (num : Int))) (hbF : bw ∉ WFt W g b m ve vs) (hbF3 : bn ∉ WFt W g b m ve vs) :
    Calls Tryz.prog 100 #[.pointer (some ⟨bw, 0, none⟩), .pointer (some ⟨bn, 0, none⟩)] w (StpI lo W g b lim (WFt W g b m ve vs) w (spDisk (Dk.stUnlink (segN num)) c t)) := by
  have HX := Lib.hid h
  have c0 := h.ct.blk.cell 0 (.pointer (some ⟨g, 0, none⟩)) rfl
  have HNM := Lib.hid (fun (w' : World) (hb : Below w.heap.size w w') => nameOf_any num hn w' (h.below hb).base)
  have HU := Lib.hid (fun (w' : World) (hb : Below w.heap.size w w') => show Calls Tryz.prog 79 #[.pointer (some ⟨g, 0, none⟩), .string (str (segN num))] w' (Dk.Did w' g b m (Dk.stUnlink (segN num) t)) from by
    have := Dk.unl_did g b m t (str (segN num)) w' (h.im.below hb)
    rwa [str_data] at this)
  have HO1 := Lib.hid (stp_off hbF)
  have HO2 := Lib.hid h.W_off
  have HO4 := Lib.hid (stp_off hbF3)
  clear h hbF hbF3
  go_enter Tryz.func100, Tryz.ntmps100
  go_wp2_with fail
  go_region_held3 (fun w' => w'.cell? ⟨bw, 0, none⟩ = some (.pointer (some ⟨W, 0, none⟩)) ∧ w'.cell? ⟨W, 0, none⟩ = some (.pointer (some ⟨g, 0, none⟩)) ∧ w'.cell? ⟨bn, 0, none⟩ = some (.int .i64 (num : Int))) (first | exact ⟨by assumption, by assumption, by assumption⟩ | go_keep) (first
    | (go_at_call 101; refine (HNM.out _ (by first | exact Below.refl _ _ | exact (Below.refl _ _).drew)).mono ?_; rintro e w2 ⟨rfl, hb2⟩; have HB2 := Lib.hid (show Below w.heap.size w w2 from (by first | exact hb2 | exact (Below.refl _ _).drew.trans hb2)); have q0 := (HB2.out.cell (lt_of_cell hw)).trans hw; have q1 := (HB2.out.cell (lt_of_cell c0)).trans c0; have q2 := (HB2.out.cell (lt_of_cell hs0)).trans hs0; clear hb2)
    | (go_at_call 79; refine (HU.out _ (by first | exact HB2.out | exact HB2.out.drew)).mono ?_; rintro e w3 ⟨rfl, m3, hL3⟩; have HLM := Lib.hid (show Kp.LeftM w g b m m3 w3 from (by first | exact (Kp.LeftM.below HB2.out).trans ⟨hL3.2.1, hL3.2.2⟩ | exact (Kp.LeftM.below HB2.out.drew).trans ⟨hL3.2.1, hL3.2.2⟩)); have HF := Lib.hid (StpI.disk HX.out hL3.1 HLM.out (Dk.stUnlink (segN num) t).1); have r0 := HLM.out.1.cell hw HO1.out; have r1 := HLM.out.1.cell c0 HO2.out; have r2 := HLM.out.1.cell hs0 HO4.out; clear hL3))
  go_wp2
  go_ret
  exact HF.out
end Go.Proofs.YtnppomiggajhnaaGreatDoor.Wl

namespace Go.Proofs.YtnppomiggajhnaaGreatDoor.Dk
open Go.RowKit Go.Proofs.YtnppomiggajhnaaGreatDoor.Fld
set_option linter.unusedVariables false

theorem fdel_len (fs : List Fil) (x : Nm) : (fdel x fs).length ≤ fs.length := by
  unfold fdel del
  exact List.length_filter_le _ _
theorem fput_len (f : Fil) (fs : List Fil) : (fput f fs).length ≤ fs.length + 1 := by
  have h1 : (fput f fs).length = (fdel f.1 fs).length + 1 := by
    have := (ins_perm (key := Prod.fst) f (fdel f.1 fs)).length_eq
    rw [List.length_cons] at this
    exact this
  have h2 := fdel_len fs f.1
  omega
theorem doing_len (ok : Bool) (t : St) (f : St → Int × St) (hf : ∀ t, (f t).2.fs.length ≤ t.fs.length + 1) : (doing ok t f).2.fs.length ≤ t.fs.length + 1 := by
  unfold doing
  split
  · split
    · have := hf (chg t).2
      rw [(chg_same t).2] at this
      exact this
    · rw [(chg_same t).2]; omega
  · simp
theorem app_len (x : Nm) (ys : List Int) (t : St) : (stAppend x ys t).2.fs.length ≤ t.fs.length + 1 := by
  unfold stAppend
  refine doing_len _ _ _ fun u => ?_
  unfold app1
  split
  · exact Nat.le_succ _
  · show (match fget x u.fs with | some f => fput (x, f.2.1 ++ ys, f.2.2) u.fs | none => fput (x, ys, 0) u.fs).length ≤ _
    split <;> exact fput_len _ _
theorem sync_len (x : Nm) (t : St) : (stSync x t).2.fs.length ≤ t.fs.length + 1 := by
  unfold stSync
  refine doing_len _ _ _ fun u => ?_
  unfold sync1
  split <;> first | exact Nat.le_succ _ | exact fput_len _ _
theorem ren_len (x y : Nm) (t : St) : (stRename x y t).2.fs.length ≤ t.fs.length + 1 := by
  unfold stRename
  refine doing_len _ _ _ fun u => ?_
  unfold ren1
  cases fget x u.fs with
  | none => exact Nat.le_succ _
  | some f =>
    show (if x = y then ((0 : Int), u) else (0, { u with fs := fdel x (fput (y, f.2.1, f.2.2) (fdel y u.fs)) })).2.fs.length ≤ _
    split
    · exact Nat.le_succ _
    · have h1 := fdel_len (fput (y, f.2.1, f.2.2) (fdel y u.fs)) x
      have h2 := fput_len (y, f.2.1, f.2.2) (fdel y u.fs)
      have h3 := fdel_len u.fs y
      show (fdel x (fput (y, f.2.1, f.2.2) (fdel y u.fs))).length ≤ _
      omega
theorem unl_len (x : Nm) (t : St) : (stUnlink x t).2.fs.length ≤ t.fs.length + 1 := by
  unfold stUnlink
  refine doing_len _ _ _ fun u => ?_
  unfold unl1
  split <;> first | exact Nat.le_succ _ | exact Nat.le_succ_of_le (fdel_len _ _)
end Go.Proofs.YtnppomiggajhnaaGreatDoor.Dk

namespace Go.Proofs.YtnppomiggajhnaaGreatDoor.Wl
open Go.RowKit Go.Proofs.YtnppomiggajhnaaGreatDoor.Fld
set_option linter.unusedVariables false

theorem Rd.frm {S : List Nat} {w w' : World} {A : Option Addr} {n : Nat} {zs : List Int} (h : Rd w A n zs) (hf : Dk.Fr S w w') (ha : 0 < n → ∀ a, A = some a → a.block ∉ S) : Rd w' A n zs := by
  obtain ⟨h1, h2, h3, h4⟩ := h
  refine ⟨h1, h2, h3, fun hn => ?_⟩
  obtain ⟨b, off, rfl, hc⟩ := h4 hn
  exact ⟨b, off, rfl, fun i hi => hf.cell (hc i hi) (show b ∉ S from ha hn ⟨b, off, none⟩ rfl)⟩
theorem WmX.lt {lo W g b lim : Nat} {m : List Dk.Ent} {ve vs : Value} {xs : List EA} {w : World} {c : Ct} {t : Dk.St} (h : WmX lo W g b lim m ve vs xs w c t) : ∀ i ∈ WFt W g b m ve vs, i < w.heap.size := by
  intro i hi
  unfold WFt CtF at hi
  simp only [List.mem_cons, List.mem_append, Option.mem_toList] at hi
  rcases hi with h1 | h1 | h1 | h1 | h1 | h1
  · exact h.im.lt i (by simp [h1])
  · exact h.im.lt i (by simp [h1])
  · exact h.im.lt i (by simp [h1])
  · exact h.ct.lt i (.inl h1)
  · exact h.ct.lt i (.inr (.inl h1))
  · exact h.ct.lt i (.inr (.inr (.inl h1)))
theorem WmS.lt {lo W g b lim : Nat} {F : List Nat} {w : World} {c : Ct} {t : Dk.St} (h : WmS lo W g b lim F w c t) : ∀ i ∈ F, i < w.heap.size := by
  obtain ⟨m, ve, vs, xs, h1, rfl⟩ := h
  exact h1.lt
theorem out_of {F F' : List Nat} {w : World} {x : Nat} {o : Nat} {v : Value} (hx : x ∉ F) (hc : w.cell? ⟨x, o, none⟩ = some v) (hs : ∀ j ∈ F', j ∈ F ∨ w.heap.size ≤ j) : x ∉ F' := fun hm => by
  rcases hs x hm with h | h
  · exact hx h
  · have := lt_of_cell hc; simp only at this; omega
/-- the last segment's file is written, then synced -/
theorem wsrun_any {lo W g b lim : Nat} {F : List Nat} {w : World} {c : Ct} {t : Dk.St} (hW : WmS lo W g b lim F w c t) {L : List Sg} {S : Sg} (hs : c.segs = L ++ [S]) (hl : L.length ≤ 900000) (hz : S.size ≤ 1099511627776) (hm : t.fs.length ≤ 890000) (X bw1 bb1 bw2 : Nat) (A : Option Addr) (n cap : Nat) (ys : List Int)
    (hX0 : w.cell? ⟨X, 0, none⟩ = some (writeFv bw1 bb1).val) (hX1 : w.cell? ⟨X, 1, none⟩ = some (syncFv bw2).val) (h1 : w.cell? ⟨bw1, 0, none⟩ = some (.pointer (some ⟨W, 0, none⟩))) (h2 : w.cell? ⟨bb1, 0, none⟩ = some (.slice A n cap)) (h3 : w.cell? ⟨bw2, 0, none⟩ = some (.pointer (some ⟨W, 0, none⟩)))
    (hr : Rd w A n ys) (hA : A = none → cap = 0) (hn : n ≤ 65536) (hAF : ∀ a, A = some a → a.block ∉ F) (hXF : X ∉ F) (o1 : bw1 ∉ F) (o2 : bb1 ∉ F) (o3 : bw2 ∉ F) :
    Calls Tryz.prog 41 #[.slice (some ⟨X, 0, none⟩) 2 2] w (StpI lo W g b lim F w (spRun [spWrite ys, spSync] c t)) := by
  refine run_sp (some ⟨X, 0, none⟩) 2 2 [(writeFv bw1 bb1, spWrite ys), (syncFv bw2, spSync)] c t hW rfl (by unfold maxLen; omega) ⟨rfl, by unfold maxLen; omega, fun _ => ⟨X, 0, rfl, fun i f hi => ?_⟩⟩ (fun _ a ha => by cases ha; exact hXF) (fun f hf => ?_)
    (fun i c' t' => (∃ L S, c'.segs = L ++ [S] ∧ L.length ≤ 900000 ∧ (i = 0 → S.size ≤ 1099511627776)) ∧ t'.fs.length ≤ 890000 + i) ⟨⟨L, S, hs, hl, fun _ => hz⟩, hm⟩ (fun i f hi c' t' hp hr0 => ?_) (fun i f hi F' w' c' t' hW' hfr hsub hp => ?_)
  · rcases i with _ | _ | i
    · simp at hi; subst hi; exact hX0
    · simp at hi; subst hi; exact hX1
    · simp at hi
  · simp only [List.mem_cons, List.not_mem_nil, or_false] at hf
    rcases hf with rfl | rfl
    · exact writeFv_in _ _
    · exact syncFv_in _
  · obtain ⟨⟨L', S', e1, e2, e3⟩, e4⟩ := hp
    rcases i with _ | _ | i
    · simp at hi
      subst hi
      have e5 := Dk.app_len (segN (lastN c')) ys t'
      refine ⟨?_, by show (Dk.stAppend (segN (lastN c')) ys t').2.fs.length ≤ _; omega⟩
      show ∃ L S, (if (Dk.stAppend (segN (lastN c')) ys t').1 = 0 then (⟨c'.lg, addSz ys.length c'.segs⟩ : Ct) else c').segs = L ++ [S] ∧ _
      split
      · refine ⟨L', ⟨S'.num, S'.next, S'.size + ys.length⟩, ?_, e2, fun h => by omega⟩
        show addSz ys.length c'.segs = _
        rw [e1, addSz_snoc]
      · exact ⟨L', S', e1, e2, fun h => by omega⟩
    · simp at hi
      subst hi
      refine ⟨⟨L', S', e1, e2, fun h => by omega⟩, ?_⟩
      show (Dk.stSync (segN (lastN c')) t').2.fs.length ≤ _
      have e6 := Dk.sync_len (segN (lastN c')) t'
      omega
    · simp at hi
  · obtain ⟨⟨L', S', e1, e2, e3⟩, e4⟩ := hp
    obtain ⟨m', ve', vs', xs', hX', rfl⟩ := hW'
    have p1 := out_of o1 h1 hsub
    have p2 := out_of o2 h2 hsub
    have p3 := out_of o3 h3 hsub
    rcases i with _ | _ | i
    · simp at hi
      subst hi
      exact write1_any hX' e1 e2 (e3 rfl) (by omega) bw1 bb1 (hfr.cell h1 o1) A n cap ys (hfr.cell h2 o2) (Rd.frm hr hfr fun _ => hAF) hA hn p1 p2
    · simp at hi
      subst hi
      exact sync1_any hX' e1 e2 (by omega) bw2 (hfr.cell h3 o3) p3
    · simp at hi
/-- a segment more -/
theorem WmX.seg {lo W g b lim : Nat} {m : List Dk.Ent} {ve vs v' : Value} {xs : List EA} {w w3 : World} {c : Ct} {t : Dk.St} (h : WmX lo W g b lim m ve vs xs w c t) (n : Nat) (hn1 : 1 ≤ n) (hn2 : n ≤ 99999999) (hr : w3.ownsRow lo 110 3 v' (c.segs.length + 1) (rowS (c.segs ++ [⟨n, c.lg.last + 1, 0⟩]))) (hg : w.grownBy w3 vs.ownBlock) (ha : v'.ownBlock = vs.ownBlock ∨ ∃ j, v'.ownBlock = some j ∧ w.heap.size ≤ j) :
    WmX lo W g b lim m ve v' xs (w3.setCell ⟨W, 5, none⟩ v') ⟨c.lg, c.segs ++ [⟨n, c.lg.last + 1, 0⟩]⟩ t ∧ Dk.Fr (WFt W g b m ve vs) w (w3.setCell ⟨W, 5, none⟩ v') ∧ ∀ i ∈ WFt W g b m ve v', i ∈ WFt W g b m ve vs ∨ w.heap.size ≤ i := by
  have hle := h.ct.ok.1.1
  have hsz := h.size
  have hfr : Dk.Fr (W :: vs.ownBlock.toList) w (w3.setCell ⟨W, 5, none⟩ v') := ((Dk.Fr.refl _ w).grown hg (fun i hi => .inl (by simp [hi]))).setCell _ (.inl (by simp)) _
  have hb3 : Blk w3 W (wcs g lim c ve vs) 88 := h.ct.blk.of (hg.block W h.ct.blk.lt (row_ne h.ct.rS h.ct.blk h.ct.t2).symm)
  have hvW : v'.ownBlock ≠ some W := row_ne hr hb3 h.ct.t2
  have hsub : ∀ i ∈ WFt W g b m ve v', i ∈ WFt W g b m ve vs ∨ w.heap.size ≤ i := by
    intro i hi
    unfold WFt CtF at hi ⊢
    simp only [List.mem_cons, List.mem_append, Option.mem_toList] at hi ⊢
    rcases hi with h1 | h1 | h1 | h1 | h1 | h1
    · exact .inl (.inl h1)
    · exact .inl (.inr (.inl h1))
    · exact .inl (.inr (.inr (.inl h1)))
    · exact .inl (.inr (.inr (.inr (.inl h1))))
    · exact .inl (.inr (.inr (.inr (.inr (.inl h1)))))
    · rcases ha with ha | ⟨j, hj, hj2⟩
      · exact .inl (.inr (.inr (.inr (.inr (.inr (by rw [← ha]; exact h1))))))
      · rw [hj] at h1; cases h1; exact .inr hj2
  have hfrW : Dk.Fr (WFt W g b m ve vs) w (w3.setCell ⟨W, 5, none⟩ v') := hfr.mono fun i hi => by
    unfold WFt CtF
    simp only [List.mem_cons, List.mem_append, Option.mem_toList] at hi ⊢
    rcases hi with h1 | h1
    · exact .inr (.inr (.inr (.inl h1)))
    · exact .inr (.inr (.inr (.inr (.inr h1))))
  have hout : ∀ i ∈ g :: b :: Dk.blks m, i ∉ W :: vs.ownBlock.toList := fun i hi hm => by
    simp only [List.mem_cons, Option.mem_toList] at hm
    rcases hm with rfl | hm
    · exact h.W_off hi
    · exact h.apart i (.inr (.inr (.inl hm))) hi
  refine ⟨⟨h.im.of_blocks fun i hi => hfr.block i (h.im.lt i hi) (hout i hi), ?_, ?_, h.base_fr hfrW h.low, ?_, h.glo, h.lim1, h.lim2⟩, hfrW, hsub⟩
  · refine h.ct.turn (cs' := wcs g lim ⟨c.lg, c.segs ++ [⟨n, c.lg.last + 1, 0⟩]⟩ ve v') (vs' := v') hfr (hb3.set 5 v' (by simp [wcs])) rfl rfl rfl ?_ ⟨h.ct.ok.1, fun s hs => ?_⟩
    · rw [List.length_append]
      exact row_of hr fun i hi => Below.heap_setCell _ _ _ _ (fun e => hvW (by rw [hi, e]))
    · rcases List.mem_append.1 hs with hs | hs
      · exact h.ct.ok.2 s hs
      · simp only [List.mem_singleton] at hs
        subst hs
        exact ⟨hn1, hn2, Nat.le_add_left _ _, by show c.lg.last + 1 ≤ MI + 1; omega⟩
  · rintro i (h1 | h1 | h1 | h1) hm
    · exact h.apart i (.inl h1) hm
    · exact h.apart i (.inr (.inl h1)) hm
    · rcases ha with ha | ⟨j, hj, hj2⟩
      · exact h.apart i (.inr (.inr (.inl (by rw [← ha]; exact h1)))) hm
      · rw [hj] at h1; cases h1; have := h.im.lt i hm; omega
    · exact h.apart i (.inr (.inr (.inr h1))) hm
  · intro i hi
    rcases hsub i hi with h1 | h1
    · exact h.low i h1
    · omega
end Go.Proofs.YtnppomiggajhnaaGreatDoor.Wl

namespace Go.Proofs.YtnppomiggajhnaaGreatDoor.Wl
open Go.RowKit Go.Proofs.YtnppomiggajhnaaGreatDoor.Fld
set_option linter.unusedVariables false

set_option maxRecDepth 100000 in
set_option maxHeartbeats 3200000 in
theorem removeFresh_any {lo W g b lim : Nat} {m : List Dk.Ent} {ve vs : Value} {xs : List EA} {w : World} {c : Ct} {t : Dk.St} (h : WmX lo W g b lim m ve vs xs w c t) (hm : t.fs.length ≤ 900000) :
    Calls Tryz.prog 42 #[.pointer (some ⟨W, 0, none⟩)] w (StpI lo W g b lim (WFt W g b m ve vs) w (spFresh c t)) := by
  have HX := Lib.hid h
  have HN := Lib.hid (Dk.names_any g b m t w h.im (by omega))
  have HH := Lib.hid (Kp.has_new h.im freshN)
  have c0 := h.ct.blk.cell 0 (.pointer (some ⟨g, 0, none⟩)) rfl
  have HC0 := Lib.hid (fun (w1 : World) (hb : Below w.heap.size w w1) => (h.below hb).ct.blk.cell 0 (.pointer (some ⟨g, 0, none⟩)) rfl)
  have HR := Lib.hid (show spFresh c t = if (Dk.fget freshN t.fs).isSome then spDisk (Dk.stUnlink freshN) c t else (0, c, t) from rfl)
  clear h
  generalize spFresh c t = R at *
  go_enter Tryz.func42, Tryz.ntmps42
  go_wp2_with fail
  refine HN.out.mono ?_
  clear HN
  rintro e w1 ⟨A1, c1, rfl, hr1, _, hb1⟩
  have HC := Lib.hid (Kp.contains_any A1 _ c1 _ ⟨freshN.toArray⟩ w1 hr1)
  rw [Kp.hasS_names, HH.out] at HC
  have HB1 := Lib.hid hb1
  have d0 := HC0.out w1 hb1
  clear hr1 hb1 HH HC0
  go_wp2_with fail
  refine HC.out.mono ?_
  rintro e w2 ⟨rfl, rfl⟩
  clear HC
  cases hb : (Dk.fget freshN t.fs).isSome with
  | true =>
    rw [hb, if_pos rfl] at HR
    have HU := Lib.hid (Dk.unl_did g b m t ⟨freshN.toArray⟩ w1 (HX.out.im.below HB1.out))
    go_wp2_with fail
    refine HU.out.mono ?_
    rintro e w3 ⟨rfl, m3, hL3⟩
    have HF := Lib.hid (StpI.disk HX.out hL3.1 ((Kp.LeftM.below HB1.out).trans ⟨hL3.2.1, hL3.2.2⟩) (Dk.stUnlink freshN t).1)
    clear HU hL3
    go_wp2
    go_ret
    rw [HR.out]
    exact HF.out
  | false =>
    rw [hb] at HR
    have HF := Lib.hid (StpI.same HX.out HB1.out 0)
    go_wp2
    go_ret
    rw [HR.out]
    exact HF.out
end Go.Proofs.YtnppomiggajhnaaGreatDoor.Wl

namespace Go.Proofs.YtnppomiggajhnaaGreatDoor.Wl
open Go.Proofs.YtnppomiggajhnaaGreatDoor.Fld
set_option linter.unusedVariables false

theorem acc_true {num : Nat} {c c' : Ct} {b : List Int} (h : acc num true c b = some c') : ∃ i, c'.segs = c.segs ++ [⟨num, i, 8 + b.length⟩] := by
  unfold acc at h
  split at h
  · cases h
  · split at h
    · rename_i hc
      cases h
      exact ⟨_, by rw [hc.2.1]⟩
    · cases h
  · simp at h
  · simp at h
  · simp at h
theorem acc_false {num : Nat} {c c' : Ct} {b : List Int} (h : acc num false c b = some c') : c'.segs = addSz (8 + b.length) c.segs := by
  unfold acc at h
  split at h
  · cases h
  · simp at h
  · split at h
    · cases h; rfl
    · cases h
  · simp only [if_true] at h; cases h; rfl
  · simp only [if_true] at h; cases h; rfl
theorem scanR_false (num : Nat) : ∀ (ts : List (List Int)) (c : Ct) (l : List Sg) (s : Sg), c.segs = l ++ [s] → ∃ z, (scanR num false c ts).1.segs = l ++ [⟨s.num, s.next, z⟩] ∧ z ≤ s.size + (Rc.recs ts).length
  | [], c, l, s, h => ⟨s.size, by rw [scanR, h], by omega⟩
  | b :: r, c, l, s, h => by
    have hl : (Rc.recs (b :: r)).length = 8 + b.length + (Rc.recs r).length := by rw [Rc.recs, List.length_append, Rc.recd_len]
    cases hq : acc num false c b with
    | none => exact ⟨s.size, by rw [scanR_none hq, h], by omega⟩
    | some c' =>
      have h1 := acc_false hq
      rw [h, addSz_snoc] at h1
      obtain ⟨z, h2, h3⟩ := scanR_false num r c' l ⟨s.num, s.next, s.size + (8 + b.length)⟩ h1
      exact ⟨z, by rw [scanR_some hq, h2], by rw [hl]; simp only at h3; omega⟩
theorem scanR_true (num : Nat) (ts : List (List Int)) (c : Ct) : ((scanR num true c ts).1 = c ∧ (ts = [] ∨ (scanR num true c ts).2 = false)) ∨ ∃ i z, (scanR num true c ts).1.segs = c.segs ++ [⟨num, i, z⟩] ∧ z ≤ (Rc.recs ts).length := by
  cases ts with
  | nil => exact .inl ⟨rfl, .inl rfl⟩
  | cons b r =>
    have hl : (Rc.recs (b :: r)).length = 8 + b.length + (Rc.recs r).length := by rw [Rc.recs, List.length_append, Rc.recd_len]
    cases hq : acc num true c b with
    | none => rw [scanR_none hq]; exact .inl ⟨rfl, .inr rfl⟩
    | some c' =>
      obtain ⟨i, h1⟩ := acc_true hq
      obtain ⟨z, h2, h3⟩ := scanR_false num r c' c.segs ⟨num, i, 8 + b.length⟩ h1
      exact .inr ⟨i, z, by rw [scanR_some hq, h2], by rw [hl]; simp only at h3; omega⟩
theorem recsOf_le (zs : List Int) : (Rc.recs (recsOf zs)).length ≤ zs.length := by
  by_cases h : ∃ ts, Rc.Sc zs ts
  · obtain ⟨ts, h⟩ := h
    rw [recsOf_eq h]
    obtain ⟨r, h1, _⟩ := h
    rw [h1, List.length_append]
    omega
  · unfold recsOf
    rw [dif_neg h]
    simp [Rc.recs]
/-- the segments that a scan has found are the first ones, and the last of them is no larger than its file -/
theorem scanS_segs : ∀ (l : List (Nat × List Int)) (c : Ct), ∃ k, k ≤ l.length ∧ (scanS c l).segs.map Sg.num = c.segs.map Sg.num ++ (l.take k).map Prod.fst ∧ (k = 0 → scanS c l = c) ∧ (0 < k → ∀ s, (scanS c l).segs.getLast? = some s → ∃ p ∈ l, p.1 = s.num ∧ s.size ≤ p.2.length)
  | [], c => ⟨0, Nat.le_refl _, by simp [scanS], fun _ => rfl, fun h => absurd h (Nat.lt_irrefl _)⟩
  | (n, zs) :: r, c => by
    have hz := recsOf_le zs
    have h1 := scanR_true n (recsOf zs) c
    rw [scanS]
    generalize recsOf zs = ts at *
    generalize scanR n true c ts = Q at *
    rcases h1 with ⟨h1, h2⟩ | ⟨i, z, h1, h2⟩
    · have hg : goesOn zs ts Q.2 = false := by
        unfold goesOn
        rcases h2 with h2 | h2
        · rw [h2]; simp
        · rw [h2]; simp
      rw [hg, if_neg (by simp), h1]
      exact ⟨0, Nat.zero_le _, by simp, fun _ => rfl, fun h => absurd h (Nat.lt_irrefl _)⟩
    · have hm : Q.1.segs.map Sg.num = c.segs.map Sg.num ++ [n] := by rw [h1, List.map_append]; rfl
      have hlast : ∀ s, Q.1.segs.getLast? = some s → ∃ p ∈ (n, zs) :: r, p.1 = s.num ∧ s.size ≤ p.2.length := by
        intro s hs
        rw [h1, List.getLast?_append] at hs
        simp at hs
        subst hs
        exact ⟨(n, zs), by simp, rfl, by simp only; omega⟩
      by_cases hg : goesOn zs ts Q.2 = true
      · rw [if_pos hg]
        obtain ⟨k, k1, k2, k3, k4⟩ := scanS_segs r Q.1
        refine ⟨k + 1, by simp only [List.length_cons]; omega, by rw [k2, hm, List.take_succ_cons, List.map_cons, List.append_assoc]; rfl, fun h => by omega, fun _ s hs => ?_⟩
        by_cases hk : k = 0
        · rw [k3 hk] at hs
          exact hlast s hs
        · obtain ⟨p, p1, p2⟩ := k4 (by omega) s hs
          exact ⟨p, by simp [p1], p2⟩
      · rw [if_neg hg]
        exact ⟨1, by simp, by rw [hm]; simp, fun h => by omega, fun _ s hs => hlast s hs⟩
/-- of a whole disk -/
theorem scanD_nums (fs : List Dk.Fil) : ∃ k, k ≤ (numsN fs).length ∧ (scanD fs).segs.map Sg.num = (numsN fs).take k := by
  obtain ⟨k, k1, k2, _⟩ := scanS_segs (segsOf fs) ct0
  refine ⟨k, by unfold numsN; rw [List.length_map]; exact k1, ?_⟩
  unfold scanD numsN
  rw [k2, List.map_take]
  rfl
theorem scanD_last (fs : List Dk.Fil) (s : Sg) (h : (scanD fs).segs.getLast? = some s) : ∃ p ∈ segsOf fs, p.1 = s.num ∧ s.size ≤ p.2.length := by
  obtain ⟨k, k1, k2, k3, k4⟩ := scanS_segs (segsOf fs) ct0
  by_cases hk : k = 0
  · unfold scanD at h
    rw [k3 hk] at h
    simp [ct0] at h
  · exact k4 (by omega) s h
end Go.Proofs.YtnppomiggajhnaaGreatDoor.Wl

namespace Go.Proofs.YtnppomiggajhnaaGreatDoor.Wl
open Go.RowKit Go.Proofs.YtnppomiggajhnaaGreatDoor.Fld
set_option linter.unusedVariables false

/-- an entry as it comes in -/
structure XE where
  i : Int
  t : Int
  k : Int
  d : List Int
  A : Option Addr
  cap : Nat
def XE.cells (x : XE) : List Value := [.int .i64 x.i, .int .i64 x.t, .int .i64 x.k, .slice x.A x.d.length x.cap]
def XE.val (x : XE) : Value := .agg #[.int .i64 x.i, .int .i64 x.t, .int .i64 x.k, .slice x.A x.d.length x.cap]
def XE.At (w : World) (x : XE) : Prop := Rd w x.A x.d.length x.d ∧ (x.A = none → x.cap = 0)
theorem XE.At.below {w w' : World} {x : XE} (h : x.At w) (hb : Below w.heap.size w w') : x.At w' := ⟨h.1.below hb, h.2⟩
def okX (x : XE) : Bool := decide (1 ≤ x.i) && decide (x.i ≤ 1099511627776) && decide (0 ≤ x.t) && decide (x.t ≤ 1099511627776) && decide (0 ≤ x.k) && decide (x.k ≤ 7) && decide ((x.d.length : Int) ≤ 4096)
def XE.e (x : XE) : E := ⟨x.i.toNat, x.t.toNat, x.k.toNat, x.d⟩
theorem okX_iff (x : XE) : okX x = true ↔ ((((((1 ≤ x.i ∧ x.i ≤ 1099511627776) ∧ 0 ≤ x.t) ∧ x.t ≤ 1099511627776) ∧ 0 ≤ x.k) ∧ x.k ≤ 7) ∧ (x.d.length : Int) ≤ 4096) := by simp [okX]
theorem XE.e_ok {x : XE} (h : okX x = true) (hb : Bytes x.d) : x.e.Ok := by
  have := (okX_iff x).1 h
  refine ⟨?_, ?_, ?_, ?_, ?_, hb⟩ <;> simp only [XE.e, MI] <;> omega
theorem XE.val_e {x : XE} (h : okX x = true) : x.val = entV x.e x.A x.cap := by
  have := (okX_iff x).1 h
  unfold XE.val entV XE.e
  simp only
  rw [Int.toNat_of_nonneg (by omega), Int.toNat_of_nonneg (by omega), Int.toNat_of_nonneg (by omega)]
def xe0 : XE := ⟨0, 0, 0, [], none, 0⟩
/-- a slice of entries -/
def RdX (w : World) (A : Option Addr) (n : Nat) (l : List XE) : Prop :=
  l.length = n ∧ n ≤ maxLen ∧ (0 < n → ∃ b off, A = some ⟨b, off, none⟩ ∧ ∀ i (h : i < l.length) j, j < 4 → w.cell? ⟨b, off + i * 4 + j, none⟩ = l[i].cells[j]?) ∧ ∀ x ∈ l, x.At w
theorem RdX.at4 {w w' : World} {A : Option Addr} {n : Nat} {l : List XE} (h : RdX w A n l) (hb : Below w.heap.size w w') (k : Nat) (hk : k < l.length) : ∃ b off, A = some ⟨b, off, none⟩ ∧ ∀ j v, j < 4 → l[k].cells[j]? = some v → w'.cell? ⟨b, off + k * 4 + j, none⟩ = some v := by
  obtain ⟨b, off, hA, hc⟩ := h.2.2.1 (by have := h.1; omega)
  refine ⟨b, off, hA, fun j v hj hv => ?_⟩
  have h1 := hc k hk j hj
  rw [hv] at h1
  exact (hb.cell (lt_of_cell h1)).trans h1
theorem RdX.below {w w' : World} {A : Option Addr} {n : Nat} {l : List XE} (h : RdX w A n l) (hb : Below w.heap.size w w') : RdX w' A n l := by
  refine ⟨h.1, h.2.1, fun hn => ?_, fun x hx => (h.2.2.2 x hx).below hb⟩
  obtain ⟨b, off, hA, hc⟩ := h.2.2.1 hn
  refine ⟨b, off, hA, fun i hi j hj => ?_⟩
  have h1 := hc i hi j hj
  have h2 : ∃ v, l[i].cells[j]? = some v := by
    have : j < l[i].cells.length := hj
    exact ⟨_, List.getElem?_eq_getElem this⟩
  obtain ⟨v, hv⟩ := h2
  rw [hv] at h1 ⊢
  exact (hb.cell (lt_of_cell h1)).trans h1
set_option maxRecDepth 100000 in
set_option maxHeartbeats 3200000 in
theorem valid_any (x : XE) (w : World) : Calls Tryz.prog 61 #[x.val] w fun e w' => e = .returned (.bool (okX x)) ∧ Below w.heap.size w w' := by
  have HB := Lib.hid (alloc_below' w (.cells #[.int .i64 x.i, .int .i64 x.t, .int .i64 x.k, .slice x.A x.d.length x.cap] 63))
  have hk := Blk.new w #[.int .i64 x.i, .int .i64 x.t, .int .i64 x.k, .slice x.A x.d.length x.cap] 63
  have c0 := hk.cell 0 _ rfl
  have c1 := hk.cell 1 _ rfl
  have c2 := hk.cell 2 _ rfl
  have c3 := hk.cell 3 _ rfl
  have HF := Lib.hid (okX_iff x)
  unfold XE.val
  clear hk
  by_cases h0 : 1 ≤ x.i
  rotate_left
  · have d0 : decide (1 ≤ x.i) = false := decide_eq_false h0
    have HR := Lib.hid (show okX x = false by cases hq : okX x with | false => rfl | true => exact absurd (HF.out.1 hq) (by omega))
    clear h0
    go_enter Tryz.func61, Tryz.ntmps61
    go_wp2
    go_ret
    exact ⟨by rw [HR.out]; rfl, HB.out⟩
  have d0 : decide (1 ≤ x.i) = true := decide_eq_true h0
  by_cases h1 : x.i ≤ 1099511627776
  rotate_left
  · have d1 : decide (x.i ≤ 1099511627776) = false := decide_eq_false h1
    have HR := Lib.hid (show okX x = false by cases hq : okX x with | false => rfl | true => exact absurd (HF.out.1 hq) (by omega))
    clear h0 h1
    go_enter Tryz.func61, Tryz.ntmps61
    go_wp2
    go_ret
    exact ⟨by rw [HR.out]; rfl, HB.out⟩
  have d1 : decide (x.i ≤ 1099511627776) = true := decide_eq_true h1
  by_cases h2 : 0 ≤ x.t
  rotate_left
  · have d2 : decide (0 ≤ x.t) = false := decide_eq_false h2
    have HR := Lib.hid (show okX x = false by cases hq : okX x with | false => rfl | true => exact absurd (HF.out.1 hq) (by omega))
    clear h0 h1 h2
    go_enter Tryz.func61, Tryz.ntmps61
    go_wp2
    go_ret
    exact ⟨by rw [HR.out]; rfl, HB.out⟩
  have d2 : decide (0 ≤ x.t) = true := decide_eq_true h2
  by_cases h3 : x.t ≤ 1099511627776
  rotate_left
  · have d3 : decide (x.t ≤ 1099511627776) = false := decide_eq_false h3
    have HR := Lib.hid (show okX x = false by cases hq : okX x with | false => rfl | true => exact absurd (HF.out.1 hq) (by omega))
    clear h0 h1 h2 h3
    go_enter Tryz.func61, Tryz.ntmps61
    go_wp2
    go_ret
    exact ⟨by rw [HR.out]; rfl, HB.out⟩
  have d3 : decide (x.t ≤ 1099511627776) = true := decide_eq_true h3
  by_cases h4 : 0 ≤ x.k
  rotate_left
  · have d4 : decide (0 ≤ x.k) = false := decide_eq_false h4
    have HR := Lib.hid (show okX x = false by cases hq : okX x with | false => rfl | true => exact absurd (HF.out.1 hq) (by omega))
    clear h0 h1 h2 h3 h4
    go_enter Tryz.func61, Tryz.ntmps61
    go_wp2
    go_ret
    exact ⟨by rw [HR.out]; rfl, HB.out⟩
  have d4 : decide (0 ≤ x.k) = true := decide_eq_true h4
  by_cases h5 : x.k ≤ 7
  rotate_left
  · have d5 : decide (x.k ≤ 7) = false := decide_eq_false h5
    have HR := Lib.hid (show okX x = false by cases hq : okX x with | false => rfl | true => exact absurd (HF.out.1 hq) (by omega))
    clear h0 h1 h2 h3 h4 h5
    go_enter Tryz.func61, Tryz.ntmps61
    go_wp2
    go_ret
    exact ⟨by rw [HR.out]; rfl, HB.out⟩
  have d5 : decide (x.k ≤ 7) = true := decide_eq_true h5
  by_cases h6 : (x.d.length : Int) ≤ 4096
  rotate_left
  · have d6 : decide ((x.d.length : Int) ≤ 4096) = false := decide_eq_false h6
    have HR := Lib.hid (show okX x = false by cases hq : okX x with | false => rfl | true => exact absurd (HF.out.1 hq) (by omega))
    clear h0 h1 h2 h3 h4 h5 h6
    go_enter Tryz.func61, Tryz.ntmps61
    go_wp2
    go_ret
    exact ⟨by rw [HR.out]; rfl, HB.out⟩
  have d6 : decide ((x.d.length : Int) ≤ 4096) = true := decide_eq_true h6
  · have HR := Lib.hid (show okX x = true from HF.out.2 (by omega))
    clear h0 h1 h2 h3 h4 h5 h6
    go_enter Tryz.func61, Tryz.ntmps61
    go_wp2
    go_ret
    exact ⟨by rw [HR.out]; rfl, HB.out⟩
end Go.Proofs.YtnppomiggajhnaaGreatDoor.Wl
