/-
  Several texts in one: Layer 6: writing and syncing in the program make their closures. No condition. Layer 6: run over steps that are known to do what parts of the mathematics say. Conditions: each step does so from wherever the ones ahead of it lead. Layer 6: the closures of shorten and removeRest in the program. Conditions: the Wal and its disk lie in memory (WmX), the closures' variables hold what they captured. How many files a change of the disk may add: one. No condition. Layer 6: a write and a sync of the last segment, by run; a segment more in memory. Conditions: the Wal and its disk lie in memory (WmX).
-/
import Derived.Test.YtgmpdifggaggdaaGreatDoorJWalAccO
import Derived.Test.YtgmpdifggaggdaaGreatDoorJFieldBase
import Derived.Deep.RegionHeld3
namespace Go.Proofs.YtgmpdifggaggdaaGreatDoor.Wl
open Go.RowKit Go.Proofs.YtgmpdifggaggdaaGreatDoor.Fld
set_option linter.unusedVariables false

def writeFv (bw bb : Nat) : Fv := ⟨77, #[], #[.pointer (some ⟨bw, 0, none⟩), .pointer (some ⟨bb, 0, none⟩)]⟩
def syncFv (bw : Nat) : Fv := ⟨101, #[], #[.pointer (some ⟨bw, 0, none⟩)]⟩
theorem writeFv_in (bw bb : Nat) : (writeFv bw bb).In := fun a w => enters_of Tryz.func77 (by kernel_rfl) rfl a w
theorem syncFv_in (bw : Nat) : (syncFv bw).In := fun a w => enters_of Tryz.func101 (by kernel_rfl) rfl a w
set_option maxRecDepth 100000 in
theorem writing_any (W : Nat) (A : Option Addr) (n cap : Nat) (w : World) : Calls Tryz.prog 51 #[.pointer (some ⟨W, 0, none⟩), .slice A n cap] w fun e w' => ∃ bw bb, e = .returned (writeFv bw bb).val ∧ w'.cell? ⟨bw, 0, none⟩ = some (.pointer (some ⟨W, 0, none⟩)) ∧ w'.cell? ⟨bb, 0, none⟩ = some (.slice A n cap) ∧ w.heap.size ≤ bw ∧ w.heap.size ≤ bb ∧ Below w.heap.size w w' := by
  have h1 := Blk.new w #[.pointer (some ⟨W, 0, none⟩)] 33
  have h2 := Blk.new (w.alloc (.cells #[.pointer (some ⟨W, 0, none⟩)] 33)) #[.slice A n cap] 45
  have H1 := Lib.hid ((h1.past (.cells #[.slice A n cap] 45)).cell 0 _ rfl)
  have H2 := Lib.hid (show ((w.alloc (.cells #[.pointer (some ⟨W, 0, none⟩)] 33)).alloc (.cells #[.slice A n cap] 45)).cell? ⟨w.heap.size + 1, 0, none⟩ = some (.slice A n cap) by have h3 := h2.cell 0 _ rfl; rw [show (w.alloc (.cells #[.pointer (some ⟨W, 0, none⟩)] 33)).heap.size = w.heap.size + 1 by simp] at h3; exact h3)
  have HB := Lib.hid ((alloc_below' w (.cells #[.pointer (some ⟨W, 0, none⟩)] 33)).trans ((alloc_below' (w.alloc (.cells #[.pointer (some ⟨W, 0, none⟩)] 33)) (.cells #[.slice A n cap] 45)).mono (by simp)))
  have HZ := Lib.hid (Nat.le_succ w.heap.size)
  clear h1 h2
  go_enter Tryz.func51, Tryz.ntmps51
  go_wp2
  go_ret
  exact ⟨_, _, rfl, H1.out, H2.out, Nat.le_refl _, HZ.out, HB.out⟩
set_option maxRecDepth 100000 in
theorem syncing_any (W : Nat) (w : World) : Calls Tryz.prog 76 #[.pointer (some ⟨W, 0, none⟩)] w fun e w' => ∃ bw, e = .returned (syncFv bw).val ∧ w'.cell? ⟨bw, 0, none⟩ = some (.pointer (some ⟨W, 0, none⟩)) ∧ w.heap.size ≤ bw ∧ Below w.heap.size w w' := by
  have h1 := Blk.new w #[.pointer (some ⟨W, 0, none⟩)] 33
  have H1 := Lib.hid (h1.cell 0 _ rfl)
  have HB := Lib.hid (alloc_below' w (.cells #[.pointer (some ⟨W, 0, none⟩)] 33))
  clear h1
  go_enter Tryz.func76, Tryz.ntmps76
  go_wp2
  go_ret
  exact ⟨_, rfl, H1.out, Nat.le_refl _, HB.out⟩
end Go.Proofs.YtgmpdifggaggdaaGreatDoor.Wl

namespace Go.Proofs.YtgmpdifggaggdaaGreatDoor.Wl
open Go.RowKit Go.Proofs.YtgmpdifggaggdaaGreatDoor.Fld
set_option linter.unusedVariables false

theorem RdF.fr {S : List Nat} {w w' : World} {A : Option Addr} {n : Nat} {fs : List Fv} (h : RdF w A n fs) (hf : Dk.Fr S w w') (hA : 0 < n → ∀ a, A = some a → a.block ∉ S) : RdF w' A n fs := by
  obtain ⟨h1, h2, h3⟩ := h
  refine ⟨h1, h2, fun h0 => ?_⟩
  obtain ⟨b, off, e, hc⟩ := h3 h0
  exact ⟨b, off, e, fun i f hi => hf.cell (hc i f hi) (show b ∉ S from hA h0 _ e)⟩
theorem run_sp {lo W g b lim : Nat} {F : List Nat} {w : World} (A : Option Addr) (n cap : Nat) (fs : List (Fv × Sp)) (c : Ct) (t : Dk.St) (hW : WmS lo W g b lim F w c t) (hl : fs.length = n) (hm : n ≤ maxLen)
    (hrd : RdF w A n (fs.map Prod.fst)) (hA : 0 < n → ∀ a, A = some a → a.block ∉ F) (hin : ∀ f ∈ fs, f.1.In) (Pre : Nat → Ct → Dk.St → Prop) (hp0 : Pre 0 c t)
    (hp : ∀ i f, fs[i]? = some f → ∀ c' t', Pre i c' t' → (f.2 c' t').1 = 0 → Pre (i + 1) (f.2 c' t').2.1 (f.2 c' t').2.2)
    (hs : ∀ i f, fs[i]? = some f → ∀ F' w' c' t', WmS lo W g b lim F' w' c' t' → Dk.Fr F w w' → (∀ j ∈ F', j ∈ F ∨ w.heap.size ≤ j) → Pre i c' t' → Calls Tryz.prog f.1.k f.1.args w' (StpI lo W g b lim F' w' (f.2 c' t'))) :
    Calls Tryz.prog 15 #[.slice A n cap] w (StpI lo W g b lim F w (spRun (fs.map Prod.snd) c t)) := by
  refine (run_any A n cap (fs.map Prod.fst) w (by simp [hl]) hm
    (fun i w' => ∃ F' c' t', WmS lo W g b lim F' w' c' t' ∧ Dk.Fr F w w' ∧ (∀ j ∈ F', j ∈ F ∨ w.heap.size ≤ j) ∧ Pre i c' t' ∧ spRun ((fs.drop i).map Prod.snd) c' t' = spRun (fs.map Prod.snd) c t)
    (fun r w' => StpI lo W g b lim F w (spRun (fs.map Prod.snd) c t) (.returned (.int .i64 r)) w')
    ⟨F, c, t, hW, Dk.Fr.refl _ _, fun j hj => .inl hj, hp0, by rw [List.drop_zero]⟩
    (fun i w1 h1 => ?_) (fun f hf => ?_) (fun i f w1 hf h1 => ?_)).mono ?_
  · obtain ⟨F', c', t', _, hfr, _⟩ := h1
    exact hrd.fr hfr hA
  · rw [List.mem_map] at hf
    obtain ⟨p, hp', rfl⟩ := hf
    exact hin p hp'
  · obtain ⟨F', c', t', hW', hfr, hsub, hpre, hrun⟩ := h1
    rw [List.getElem?_map, Option.map_eq_some_iff] at hf
    obtain ⟨p, hp', rfl⟩ := hf
    have hi : i < fs.length := by
      rcases Nat.lt_or_ge i fs.length with h | h
      · exact h
      · rw [List.getElem?_eq_none h] at hp'; cases hp'
    have hd : fs.drop i = p :: fs.drop (i + 1) := by
      rw [List.drop_eq_getElem_cons hi]
      rw [List.getElem?_eq_getElem hi] at hp'
      cases hp'
      rfl
    rw [hd, List.map_cons] at hrun
    refine (hs i p hp' F' w1 c' t' hW' hfr hsub hpre).mono ?_
    rintro e w2 ⟨rfl, F2, hW2, hfr2, hsub2⟩
    refine ⟨_, rfl, fun h0 => ⟨F2, _, _, hW2, hfr.trans hfr2 hsub, fun j hj => ?_, hp i p hp' c' t' hpre h0, by rw [← hrun, spRun_ok h0]⟩, fun h0 => ?_⟩
    · rcases hsub2 j hj with h | h
      · exact hsub j h
      · exact .inr (Nat.le_trans hfr.size h)
    · rw [← hrun, spRun_no h0]
      exact StpI.then hfr hsub ⟨rfl, F2, hW2, hfr2, hsub2⟩
  · rintro e w' ⟨r, rfl, h0, h1⟩
    by_cases hr : r = 0
    · obtain ⟨F', c', t', hW', hfr, hsub, _, hrun⟩ := h0 hr
      rw [List.drop_of_length_le (by omega), List.map_nil, spRun_nil] at hrun
      rw [← hrun, hr]
      exact ⟨rfl, F', hW', hfr, hsub⟩
    · exact h1 hr
end Go.Proofs.YtgmpdifggaggdaaGreatDoor.Wl

namespace Go.Proofs.YtgmpdifggaggdaaGreatDoor.Wl
open Go.RowKit Go.Proofs.YtgmpdifggaggdaaGreatDoor.Fld
set_option linter.unusedVariables false

theorem run_upto (A : Option Addr) (n cap u : Nat) (hA : A = none → cap = 0) (hu : u ≤ cap) (W : World) : (Instr.slice 45 (.slice A n cap) none (some (.int .i64 (u : Int))) none).run Tryz.prog W = .ok (.slice A u cap) W := by
  cases A with
  | some a =>
    have h1 : (0 : Int) ≤ (u : Int) := by omega
    have h3 : (u : Int) ≤ (cap : Int) := by omega
    go_simp
  | none =>
    obtain rfl := hA rfl
    obtain rfl : u = 0 := by omega
    go_simp
theorem stp_off {W g b : Nat} {m : List Dk.Ent} {ve vs : Value} {i : Nat} (h : i ∉ WFt W g b m ve vs) : i ∉ g :: b :: Dk.blks m := fun hm => h (wft_disk _ hm)
set_option maxRecDepth 100000 in
set_option maxHeartbeats 3200000 in
theorem short1_any {lo W g b lim : Nat} {m : List Dk.Ent} {ve vs : Value} {xs : List EA} {w : World} {c : Ct} {t : Dk.St} (h : WmX lo W g b lim m ve vs xs w c t) (hm : t.fs.length ≤ 900000) (bw bb bl : Nat) (hw : w.cell? ⟨bw, 0, none⟩ = some (.pointer (some ⟨W, 0, none⟩))) (a : Addr) (n cap : Nat) (ys : List Int) (hb : w.cell? ⟨bb, 0, none⟩ = some (.slice (some a) n cap)) (hr : Rd w (some a) n ys) (hnc : n ≤ cap) (hc : n ≤ 16777216) (sz : Nat) (hs : w.cell? ⟨bl, 2, none⟩ = some (.int .i64 (sz : Int))) (hsz : sz ≤ n) (hbF : bw ∉ WFt W g b m ve vs) (hbF2 : bb ∉ WFt W g b m ve vs) (hbF3 : bl ∉ WFt W g b m ve vs) :
    Calls Tryz.prog 40 #[.pointer (some ⟨bw, 0, none⟩), .pointer (some ⟨bb, 0, none⟩), .pointer (some ⟨bl, 0, none⟩)] w (StpI lo W g b lim (WFt W g b m ve vs) w (spDisk (Dk.stAppend freshN (ys.take sz)) c t)) := by
  have HX := Lib.hid h
  have c0 := h.ct.blk.cell 0 (.pointer (some ⟨g, 0, none⟩)) rfl
  have HU := Lib.hid (fun (w' : World) (hb : Below w.heap.size w w') => show Calls Tryz.prog 41 #[.pointer (some ⟨g, 0, none⟩), .string ⟨freshN.toArray⟩, .slice (some a) sz cap] w' (Dk.Did w' g b m (Dk.stAppend freshN (ys.take sz) t)) from
    Dk.app_did g b m t ⟨freshN.toArray⟩ (some a) sz cap (ys.take sz) w' (h.im.below hb) (by omega) ((hr.below hb).cut sz hsz) (fun h => by cases h) (by omega))
  have HO1 := Lib.hid (stp_off hbF)
  have HO2 := Lib.hid h.W_off
  have HO3 := Lib.hid (stp_off hbF2)
  have HO4 := Lib.hid (stp_off hbF3)
  have hsl : ∀ W : World, (Instr.slice 45 (.slice (some a) n cap) none (some (.int .i64 (sz : Int))) none).run Tryz.prog W = .ok (.slice (some a) sz cap) W := run_upto (some a) n cap sz (fun h => by cases h) (by omega)
  clear h hr hbF hbF2 hbF3
  go_enter Tryz.func40, Tryz.ntmps40
  go_wp2_with fail
  go_region_held3 (fun w' => w'.cell? ⟨bw, 0, none⟩ = some (.pointer (some ⟨W, 0, none⟩)) ∧ w'.cell? ⟨W, 0, none⟩ = some (.pointer (some ⟨g, 0, none⟩)) ∧ w'.cell? ⟨bb, 0, none⟩ = some (.slice (some a) n cap) ∧ w'.cell? ⟨bl, 2, none⟩ = some (.int .i64 (sz : Int))) (first | exact ⟨by assumption, by assumption, by assumption, by assumption⟩ | go_keep) ((go_at_call 41; refine (HU.out _ (by first | exact Below.refl _ _ | exact (Below.refl _ _).drew)).mono ?_; rintro e w3 ⟨rfl, m3, hL3⟩; have HLM := Lib.hid (show Kp.LeftM w g b m m3 w3 from (by first | exact ⟨hL3.2.1, hL3.2.2⟩ | exact (Kp.LeftM.below (Below.refl _ _).drew).trans ⟨hL3.2.1, hL3.2.2⟩)); have HF := Lib.hid (StpI.disk HX.out hL3.1 HLM.out (Dk.stAppend freshN (ys.take sz) t).1); have r0 := HLM.out.1.cell hw HO1.out; have r1 := HLM.out.1.cell c0 HO2.out; have r2 := HLM.out.1.cell hb HO3.out; have r3 := HLM.out.1.cell hs HO4.out; clear hL3))
  go_wp2
  go_ret
  exact HF.out
set_option maxRecDepth 100000 in
set_option maxHeartbeats 3200000 in
theorem short2_any {lo W g b lim : Nat} {m : List Dk.Ent} {ve vs : Value} {xs : List EA} {w : World} {c : Ct} {t : Dk.St} (h : WmX lo W g b lim m ve vs xs w c t) (hm : t.fs.length ≤ 900000) (bw : Nat) (hw : w.cell? ⟨bw, 0, none⟩ = some (.pointer (some ⟨W, 0, none⟩))) :
    Calls Tryz.prog 42 #[.pointer (some ⟨bw, 0, none⟩)] w (StpI lo W g b lim (WFt W g b m ve vs) w (spDisk (Dk.stSync freshN) c t)) := by
  have HX := Lib.hid h
  have c0 := h.ct.blk.cell 0 (.pointer (some ⟨g, 0, none⟩)) rfl
  have HU := Lib.hid (show Calls Tryz.prog 43 #[.pointer (some ⟨g, 0, none⟩), .string ⟨freshN.toArray⟩] w (Dk.Did w g b m (Dk.stSync freshN t)) from Dk.sync_did g b m t ⟨freshN.toArray⟩ w h.im (by omega))
  clear h
  go_enter Tryz.func42, Tryz.ntmps42
  go_wp2_with fail
  refine HU.out.mono ?_
  rintro e w3 ⟨rfl, m3, hL3⟩
  have HF := Lib.hid (StpI.disk HX.out hL3.1 ⟨hL3.2.1, hL3.2.2⟩ (Dk.stSync freshN t).1)
  clear hL3
  go_wp2
  go_ret
  exact HF.out
set_option maxRecDepth 100000 in
set_option maxHeartbeats 3200000 in
theorem short3_any {lo W g b lim : Nat} {m : List Dk.Ent} {ve vs : Value} {xs : List EA} {w : World} {c : Ct} {t : Dk.St} (h : WmX lo W g b lim m ve vs xs w c t) (hm : t.fs.length ≤ 900000) (bw bl : Nat) (hw : w.cell? ⟨bw, 0, none⟩ = some (.pointer (some ⟨W, 0, none⟩))) (num : Nat) (x y : Value) (hn : num ≤ 99999999) (hs0 : w.cell? ⟨bl, 0, none⟩ = some (.int .i64 (num : Int))) (hs1 : w.cell? ⟨bl, 1, none⟩ = some x) (hs2 : w.cell? ⟨bl, 2, none⟩ = some y) (hbF : bw ∉ WFt W g b m ve vs) (hbF3 : bl ∉ WFt W g b m ve vs) :
    Calls Tryz.prog 44 #[.pointer (some ⟨bw, 0, none⟩), .pointer (some ⟨bl, 0, none⟩)] w (StpI lo W g b lim (WFt W g b m ve vs) w (spDisk (Dk.stRename freshN (segN num)) c t)) := by
  have HX := Lib.hid h
  have c0 := h.ct.blk.cell 0 (.pointer (some ⟨g, 0, none⟩)) rfl
  have HNM := Lib.hid (fun (w' : World) (hb : Below w.heap.size w w') => segname_any num x y hn w' (h.below hb).base)
  have HU := Lib.hid (fun (w' : World) (hb : Below w.heap.size w w') => show Calls Tryz.prog 45 #[.pointer (some ⟨g, 0, none⟩), .string ⟨freshN.toArray⟩, .string (str (segN num))] w' (Dk.Did w' g b m (Dk.stRename freshN (segN num) t)) from by
    have := Dk.ren_did g b m t ⟨freshN.toArray⟩ (str (segN num)) w' (h.im.below hb) (by omega)
    rwa [str_data] at this)
  have HO1 := Lib.hid (stp_off hbF)
  have HO2 := Lib.hid h.W_off
  have HO4 := Lib.hid (stp_off hbF3)
  clear h hbF hbF3
  go_enter Tryz.func44, Tryz.ntmps44
  go_wp2_with fail
  go_region_held3 (fun w' => w'.cell? ⟨bw, 0, none⟩ = some (.pointer (some ⟨W, 0, none⟩)) ∧ w'.cell? ⟨W, 0, none⟩ = some (.pointer (some ⟨g, 0, none⟩)) ∧ w'.cell? ⟨bl, 0, none⟩ = some (.int .i64 (num : Int)) ∧ w'.cell? ⟨bl, 1, none⟩ = some x ∧ w'.cell? ⟨bl, 2, none⟩ = some y) (first | exact ⟨by assumption, by assumption, by assumption, by assumption, by assumption⟩ | go_keep) (first
    | (go_at_call 29; refine (HNM.out _ (by first | exact Below.refl _ _ | exact (Below.refl _ _).drew)).mono ?_; rintro e w2 ⟨rfl, hb2⟩; have HB2 := Lib.hid (show Below w.heap.size w w2 from (by first | exact hb2 | exact (Below.refl _ _).drew.trans hb2)); have q0 := (HB2.out.cell (lt_of_cell hw)).trans hw; have q1 := (HB2.out.cell (lt_of_cell c0)).trans c0; have q2 := (HB2.out.cell (lt_of_cell hs0)).trans hs0; have q3 := (HB2.out.cell (lt_of_cell hs1)).trans hs1; have q4 := (HB2.out.cell (lt_of_cell hs2)).trans hs2; clear hb2)
    | (go_at_call 45; refine (HU.out _ (by first | exact HB2.out | exact HB2.out.drew)).mono ?_; rintro e w3 ⟨rfl, m3, hL3⟩; have HLM := Lib.hid (show Kp.LeftM w g b m m3 w3 from (by first | exact (Kp.LeftM.below HB2.out).trans ⟨hL3.2.1, hL3.2.2⟩ | exact (Kp.LeftM.below HB2.out.drew).trans ⟨hL3.2.1, hL3.2.2⟩)); have HF := Lib.hid (StpI.disk HX.out hL3.1 HLM.out (Dk.stRename freshN (segN num) t).1); have r0 := HLM.out.1.cell hw HO1.out; have r1 := HLM.out.1.cell c0 HO2.out; have r2 := HLM.out.1.cell hs0 HO4.out; have r3 := HLM.out.1.cell hs1 HO4.out; have r4 := HLM.out.1.cell hs2 HO4.out; clear hL3))
  go_wp2
  go_ret
  exact HF.out
set_option maxRecDepth 100000 in
set_option maxHeartbeats 3200000 in
theorem rest1_any {lo W g b lim : Nat} {m : List Dk.Ent} {ve vs : Value} {xs : List EA} {w : World} {c : Ct} {t : Dk.St} (h : WmX lo W g b lim m ve vs xs w c t) (bw bn : Nat) (hw : w.cell? ⟨bw, 0, none⟩ = some (.pointer (some ⟨W, 0, none⟩))) (num : Nat) (hn : num ≤ 99999999) (hs0 : w.cell? ⟨bn, 0, none⟩ = some (.int .i64 (num : Int))) (hbF : bw ∉ WFt W g b m ve vs) (hbF3 : bn ∉ WFt W g b m ve vs) :
    Calls Tryz.prog 47 #[.pointer (some ⟨bw, 0, none⟩), .pointer (some ⟨bn, 0, none⟩)] w (StpI lo W g b lim (WFt W g b m ve vs) w (spDisk (Dk.stUnlink (segN num)) c t)) := by
  have HX := Lib.hid h
  have c0 := h.ct.blk.cell 0 (.pointer (some ⟨g, 0, none⟩)) rfl
  have HNM := Lib.hid (fun (w' : World) (hb : Below w.heap.size w w') => nameOf_any num hn w' (h.below hb).base)
  have HU := Lib.hid (fun (w' : World) (hb : Below w.heap.size w w') => show Calls Tryz.prog 28 #[.pointer (some ⟨g, 0, none⟩), .string (str (segN num))] w' (Dk.Did w' g b m (Dk.stUnlink (segN num) t)) from by
    have := Dk.unl_did g b m t (str (segN num)) w' (h.im.below hb)
    rwa [str_data] at this)
  have HO1 := Lib.hid (stp_off hbF)
  have HO2 := Lib.hid h.W_off
  have HO4 := Lib.hid (stp_off hbF3)
  clear h hbF hbF3
  go_enter Tryz.func47, Tryz.ntmps47
  go_wp2_with fail
  go_region_held3 (fun w' => w'.cell? ⟨bw, 0, none⟩ = some (.pointer (some ⟨W, 0, none⟩)) ∧ w'.cell? ⟨W, 0, none⟩ = some (.pointer (some ⟨g, 0, none⟩)) ∧ w'.cell? ⟨bn, 0, none⟩ = some (.int .i64 (num : Int))) (first | exact ⟨by assumption, by assumption, by assumption⟩ | go_keep) (first
    | (go_at_call 48; refine (HNM.out _ (by first | exact Below.refl _ _ | exact (Below.refl _ _).drew)).mono ?_; rintro e w2 ⟨rfl, hb2⟩; have HB2 := Lib.hid (show Below w.heap.size w w2 from (by first | exact hb2 | exact (Below.refl _ _).drew.trans hb2)); have q0 := (HB2.out.cell (lt_of_cell hw)).trans hw; have q1 := (HB2.out.cell (lt_of_cell c0)).trans c0; have q2 := (HB2.out.cell (lt_of_cell hs0)).trans hs0; clear hb2)
    | (go_at_call 28; refine (HU.out _ (by first | exact HB2.out | exact HB2.out.drew)).mono ?_; rintro e w3 ⟨rfl, m3, hL3⟩; have HLM := Lib.hid (show Kp.LeftM w g b m m3 w3 from (by first | exact (Kp.LeftM.below HB2.out).trans ⟨hL3.2.1, hL3.2.2⟩ | exact (Kp.LeftM.below HB2.out.drew).trans ⟨hL3.2.1, hL3.2.2⟩)); have HF := Lib.hid (StpI.disk HX.out hL3.1 HLM.out (Dk.stUnlink (segN num) t).1); have r0 := HLM.out.1.cell hw HO1.out; have r1 := HLM.out.1.cell c0 HO2.out; have r2 := HLM.out.1.cell hs0 HO4.out; clear hL3))
  go_wp2
  go_ret
  exact HF.out
end Go.Proofs.YtgmpdifggaggdaaGreatDoor.Wl

namespace Go.Proofs.YtgmpdifggaggdaaGreatDoor.Dk
open Go.RowKit Go.Proofs.YtgmpdifggaggdaaGreatDoor.Fld
set_option linter.unusedVariables false

theorem fdel_len (fs : List Fil) (x : Nm) : (fdel x fs).length ≤ fs.length := by
  unfold fdel del
  exact List.length_filter_le _ _
theorem fput_len (f : Fil) (fs : List Fil) : (fput f fs).length ≤ fs.length + 1 := by
  have h1 : (fput f fs).length = (fdel f.1 fs).length + 1 := by
    have := (ins_perm (key := Prod.fst) f (fdel f.1 fs)).length_eq
    rw [List.length_cons] at this
    exact this
  have h2 := fdel_len fs f.1
  omega
theorem doing_len (ok : Bool) (t : St) (f : St → Int × St) (hf : ∀ t, (f t).2.fs.length ≤ t.fs.length + 1) : (doing ok t f).2.fs.length ≤ t.fs.length + 1 := by
  unfold doing
  split
  · split
    · have := hf (chg t).2
      rw [(chg_same t).2] at this
      exact this
    · rw [(chg_same t).2]; omega
  · simp
theorem app_len (x : Nm) (ys : List Int) (t : St) : (stAppend x ys t).2.fs.length ≤ t.fs.length + 1 := by
  unfold stAppend
  refine doing_len _ _ _ fun u => ?_
  unfold app1
  split
  · exact Nat.le_succ _
  · show (match fget x u.fs with | some f => fput (x, f.2.1 ++ ys, f.2.2) u.fs | none => fput (x, ys, 0) u.fs).length ≤ _
    split <;> exact fput_len _ _
theorem sync_len (x : Nm) (t : St) : (stSync x t).2.fs.length ≤ t.fs.length + 1 := by
  unfold stSync
  refine doing_len _ _ _ fun u => ?_
  unfold sync1
  split <;> first | exact Nat.le_succ _ | exact fput_len _ _
theorem ren_len (x y : Nm) (t : St) : (stRename x y t).2.fs.length ≤ t.fs.length + 1 := by
  unfold stRename
  refine doing_len _ _ _ fun u => ?_
  unfold ren1
  cases fget x u.fs with
  | none => exact Nat.le_succ _
  | some f =>
    show (if x = y then ((0 : Int), u) else (0, { u with fs := fdel x (fput (y, f.2.1, f.2.2) (fdel y u.fs)) })).2.fs.length ≤ _
    split
    · exact Nat.le_succ _
    · have h1 := fdel_len (fput (y, f.2.1, f.2.2) (fdel y u.fs)) x
      have h2 := fput_len (y, f.2.1, f.2.2) (fdel y u.fs)
      have h3 := fdel_len u.fs y
      show (fdel x (fput (y, f.2.1, f.2.2) (fdel y u.fs))).length ≤ _
      omega
theorem unl_len (x : Nm) (t : St) : (stUnlink x t).2.fs.length ≤ t.fs.length + 1 := by
  unfold stUnlink
  refine doing_len _ _ _ fun u => ?_
  unfold unl1
  split <;> first | exact Nat.le_succ _ | exact Nat.le_succ_of_le (fdel_len _ _)
end Go.Proofs.YtgmpdifggaggdaaGreatDoor.Dk

namespace Go.Proofs.YtgmpdifggaggdaaGreatDoor.Wl
open Go.RowKit Go.Proofs.YtgmpdifggaggdaaGreatDoor.Fld
set_option linter.unusedVariables false

theorem Rd.frm {S : List Nat} {w w' : World} {A : Option Addr} {n : Nat} {zs : List Int} (h : Rd w A n zs) (hf : Dk.Fr S w w') (ha : 0 < n → ∀ a, A = some a → a.block ∉ S) : Rd w' A n zs := by
  obtain ⟨h1, h2, h3, h4⟩ := h
  refine ⟨h1, h2, h3, fun hn => ?_⟩
  obtain ⟨b, off, rfl, hc⟩ := h4 hn
  exact ⟨b, off, rfl, fun i hi => hf.cell (hc i hi) (show b ∉ S from ha hn ⟨b, off, none⟩ rfl)⟩
theorem WmX.lt {lo W g b lim : Nat} {m : List Dk.Ent} {ve vs : Value} {xs : List EA} {w : World} {c : Ct} {t : Dk.St} (h : WmX lo W g b lim m ve vs xs w c t) : ∀ i ∈ WFt W g b m ve vs, i < w.heap.size := by
  intro i hi
  unfold WFt CtF at hi
  simp only [List.mem_cons, List.mem_append, Option.mem_toList] at hi
  rcases hi with h1 | h1 | h1 | h1 | h1 | h1
  · exact h.im.lt i (by simp [h1])
  · exact h.im.lt i (by simp [h1])
  · exact h.im.lt i (by simp [h1])
  · exact h.ct.lt i (.inl h1)
  · exact h.ct.lt i (.inr (.inl h1))
  · exact h.ct.lt i (.inr (.inr (.inl h1)))
theorem WmS.lt {lo W g b lim : Nat} {F : List Nat} {w : World} {c : Ct} {t : Dk.St} (h : WmS lo W g b lim F w c t) : ∀ i ∈ F, i < w.heap.size := by
  obtain ⟨m, ve, vs, xs, h1, rfl⟩ := h
  exact h1.lt
theorem out_of {F F' : List Nat} {w : World} {x : Nat} {o : Nat} {v : Value} (hx : x ∉ F) (hc : w.cell? ⟨x, o, none⟩ = some v) (hs : ∀ j ∈ F', j ∈ F ∨ w.heap.size ≤ j) : x ∉ F' := fun hm => by
  rcases hs x hm with h | h
  · exact hx h
  · have := lt_of_cell hc; simp only at this; omega
/-- the last segment's file is written, then synced -/
theorem wsrun_any {lo W g b lim : Nat} {F : List Nat} {w : World} {c : Ct} {t : Dk.St} (hW : WmS lo W g b lim F w c t) {L : List Sg} {S : Sg} (hs : c.segs = L ++ [S]) (hl : L.length ≤ 900000) (hz : S.size ≤ 1099511627776) (hm : t.fs.length ≤ 890000) (X bw1 bb1 bw2 : Nat) (A : Option Addr) (n cap : Nat) (ys : List Int)
    (hX0 : w.cell? ⟨X, 0, none⟩ = some (writeFv bw1 bb1).val) (hX1 : w.cell? ⟨X, 1, none⟩ = some (syncFv bw2).val) (h1 : w.cell? ⟨bw1, 0, none⟩ = some (.pointer (some ⟨W, 0, none⟩))) (h2 : w.cell? ⟨bb1, 0, none⟩ = some (.slice A n cap)) (h3 : w.cell? ⟨bw2, 0, none⟩ = some (.pointer (some ⟨W, 0, none⟩)))
    (hr : Rd w A n ys) (hA : A = none → cap = 0) (hn : n ≤ 65536) (hAF : ∀ a, A = some a → a.block ∉ F) (hXF : X ∉ F) (o1 : bw1 ∉ F) (o2 : bb1 ∉ F) (o3 : bw2 ∉ F) :
    Calls Tryz.prog 15 #[.slice (some ⟨X, 0, none⟩) 2 2] w (StpI lo W g b lim F w (spRun [spWrite ys, spSync] c t)) := by
  refine run_sp (some ⟨X, 0, none⟩) 2 2 [(writeFv bw1 bb1, spWrite ys), (syncFv bw2, spSync)] c t hW rfl (by unfold maxLen; omega) ⟨rfl, by unfold maxLen; omega, fun _ => ⟨X, 0, rfl, fun i f hi => ?_⟩⟩ (fun _ a ha => by cases ha; exact hXF) (fun f hf => ?_)
    (fun i c' t' => (∃ L S, c'.segs = L ++ [S] ∧ L.length ≤ 900000 ∧ (i = 0 → S.size ≤ 1099511627776)) ∧ t'.fs.length ≤ 890000 + i) ⟨⟨L, S, hs, hl, fun _ => hz⟩, hm⟩ (fun i f hi c' t' hp hr0 => ?_) (fun i f hi F' w' c' t' hW' hfr hsub hp => ?_)
  · rcases i with _ | _ | i
    · simp at hi; subst hi; exact hX0
    · simp at hi; subst hi; exact hX1
    · simp at hi
  · simp only [List.mem_cons, List.not_mem_nil, or_false] at hf
    rcases hf with rfl | rfl
    · exact writeFv_in _ _
    · exact syncFv_in _
  · obtain ⟨⟨L', S', e1, e2, e3⟩, e4⟩ := hp
    rcases i with _ | _ | i
    · simp at hi
      subst hi
      have e5 := Dk.app_len (segN (lastN c')) ys t'
      refine ⟨?_, by show (Dk.stAppend (segN (lastN c')) ys t').2.fs.length ≤ _; omega⟩
      show ∃ L S, (if (Dk.stAppend (segN (lastN c')) ys t').1 = 0 then (⟨c'.lg, addSz ys.length c'.segs⟩ : Ct) else c').segs = L ++ [S] ∧ _
      split
      · refine ⟨L', ⟨S'.num, S'.next, S'.size + ys.length⟩, ?_, e2, fun h => by omega⟩
        show addSz ys.length c'.segs = _
        rw [e1, addSz_snoc]
      · exact ⟨L', S', e1, e2, fun h => by omega⟩
    · simp at hi
      subst hi
      refine ⟨⟨L', S', e1, e2, fun h => by omega⟩, ?_⟩
      show (Dk.stSync (segN (lastN c')) t').2.fs.length ≤ _
      have e6 := Dk.sync_len (segN (lastN c')) t'
      omega
    · simp at hi
  · obtain ⟨⟨L', S', e1, e2, e3⟩, e4⟩ := hp
    obtain ⟨m', ve', vs', xs', hX', rfl⟩ := hW'
    have p1 := out_of o1 h1 hsub
    have p2 := out_of o2 h2 hsub
    have p3 := out_of o3 h3 hsub
    rcases i with _ | _ | i
    · simp at hi
      subst hi
      exact write1_any hX' e1 e2 (e3 rfl) (by omega) bw1 bb1 (hfr.cell h1 o1) A n cap ys (hfr.cell h2 o2) (Rd.frm hr hfr fun _ => hAF) hA hn p1 p2
    · simp at hi
      subst hi
      exact sync1_any hX' e1 e2 (by omega) bw2 (hfr.cell h3 o3) p3
    · simp at hi
/-- a segment more -/
theorem WmX.seg {lo W g b lim : Nat} {m : List Dk.Ent} {ve vs v' : Value} {xs : List EA} {w w3 : World} {c : Ct} {t : Dk.St} (h : WmX lo W g b lim m ve vs xs w c t) (n : Nat) (hn1 : 1 ≤ n) (hn2 : n ≤ 99999999) (hr : w3.ownsRow lo 69 3 v' (c.segs.length + 1) (rowS (c.segs ++ [⟨n, c.lg.last + 1, 0⟩]))) (hg : w.grownBy w3 vs.ownBlock) (ha : v'.ownBlock = vs.ownBlock ∨ ∃ j, v'.ownBlock = some j ∧ w.heap.size ≤ j) :
    WmX lo W g b lim m ve v' xs (w3.setCell ⟨W, 5, none⟩ v') ⟨c.lg, c.segs ++ [⟨n, c.lg.last + 1, 0⟩]⟩ t ∧ Dk.Fr (WFt W g b m ve vs) w (w3.setCell ⟨W, 5, none⟩ v') ∧ ∀ i ∈ WFt W g b m ve v', i ∈ WFt W g b m ve vs ∨ w.heap.size ≤ i := by
  have hle := h.ct.ok.1.1
  have hsz := h.size
  have hfr : Dk.Fr (W :: vs.ownBlock.toList) w (w3.setCell ⟨W, 5, none⟩ v') := ((Dk.Fr.refl _ w).grown hg (fun i hi => .inl (by simp [hi]))).setCell _ (.inl (by simp)) _
  have hb3 : Blk w3 W (wcs g lim c ve vs) 61 := h.ct.blk.of (hg.block W h.ct.blk.lt (row_ne h.ct.rS h.ct.blk h.ct.t2).symm)
  have hvW : v'.ownBlock ≠ some W := row_ne hr hb3 h.ct.t2
  have hsub : ∀ i ∈ WFt W g b m ve v', i ∈ WFt W g b m ve vs ∨ w.heap.size ≤ i := by
    intro i hi
    unfold WFt CtF at hi ⊢
    simp only [List.mem_cons, List.mem_append, Option.mem_toList] at hi ⊢
    rcases hi with h1 | h1 | h1 | h1 | h1 | h1
    · exact .inl (.inl h1)
    · exact .inl (.inr (.inl h1))
    · exact .inl (.inr (.inr (.inl h1)))
    · exact .inl (.inr (.inr (.inr (.inl h1))))
    · exact .inl (.inr (.inr (.inr (.inr (.inl h1)))))
    · rcases ha with ha | ⟨j, hj, hj2⟩
      · exact .inl (.inr (.inr (.inr (.inr (.inr (by rw [← ha]; exact h1))))))
      · rw [hj] at h1; cases h1; exact .inr hj2
  have hfrW : Dk.Fr (WFt W g b m ve vs) w (w3.setCell ⟨W, 5, none⟩ v') := hfr.mono fun i hi => by
    unfold WFt CtF
    simp only [List.mem_cons, List.mem_append, Option.mem_toList] at hi ⊢
    rcases hi with h1 | h1
    · exact .inr (.inr (.inr (.inl h1)))
    · exact .inr (.inr (.inr (.inr (.inr h1))))
  have hout : ∀ i ∈ g :: b :: Dk.blks m, i ∉ W :: vs.ownBlock.toList := fun i hi hm => by
    simp only [List.mem_cons, Option.mem_toList] at hm
    rcases hm with rfl | hm
    · exact h.W_off hi
    · exact h.apart i (.inr (.inr (.inl hm))) hi
  refine ⟨⟨h.im.of_blocks fun i hi => hfr.block i (h.im.lt i hi) (hout i hi), ?_, ?_, h.base_fr hfrW h.low, ?_, h.glo, h.lim1, h.lim2⟩, hfrW, hsub⟩
  · refine h.ct.turn (cs' := wcs g lim ⟨c.lg, c.segs ++ [⟨n, c.lg.last + 1, 0⟩]⟩ ve v') (vs' := v') hfr (hb3.set 5 v' (by simp [wcs])) rfl rfl rfl ?_ ⟨h.ct.ok.1, fun s hs => ?_⟩
    · rw [List.length_append]
      exact row_of hr fun i hi => Below.heap_setCell _ _ _ _ (fun e => hvW (by rw [hi, e]))
    · rcases List.mem_append.1 hs with hs | hs
      · exact h.ct.ok.2 s hs
      · simp only [List.mem_singleton] at hs
        subst hs
        exact ⟨hn1, hn2, Nat.le_add_left _ _, by show c.lg.last + 1 ≤ MI + 1; omega⟩
  · rintro i (h1 | h1 | h1 | h1) hm
    · exact h.apart i (.inl h1) hm
    · exact h.apart i (.inr (.inl h1)) hm
    · rcases ha with ha | ⟨j, hj, hj2⟩
      · exact h.apart i (.inr (.inr (.inl (by rw [← ha]; exact h1)))) hm
      · rw [hj] at h1; cases h1; have := h.im.lt i hm; omega
    · exact h.apart i (.inr (.inr (.inr h1))) hm
  · intro i hi
    rcases hsub i hi with h1 | h1
    · exact h.low i h1
    · omega
end Go.Proofs.YtgmpdifggaggdaaGreatDoor.Wl
