/-
  Several texts in one: Layer 6: the three steps of add by run: room, the record, the entry itself. Conditions: the Wal and its disk lie in memory (WmX); the entry is the next one. Layer 6: add in the program. Conditions: the Wal and its disk lie in memory (WmX); the entry is the next one. Layer 6: the closure of Reset, that begins the log anew. Conditions: the Wal and its disk lie in memory (WmX). Layer 6: Reset in the program. Conditions: the Wal and its disk lie in memory (WmX), or it is broken (WmB). Layer 6: Reset in the program where it refuses. Conditions: the Wal and its disk lie in memory (WmX), or it is broken (WmB).
-/
import Derived.Test.YtgmpdifggaggdaaGreatDoorJWalOp
namespace Go.Proofs.YtgmpdifggaggdaaGreatDoor.Wl
open Go.RowKit Go.Proofs.YtgmpdifggaggdaaGreatDoor.Fld
set_option linter.unusedVariables false

theorem entry_len (e : E) (he : e.Ok) : (Rc.recd (chC (.entry e))).length ≤ 65536 := by
  obtain ⟨h1, h2, h3, h4, h5, h6⟩ := he
  unfold MI at h2 h3
  have h := enc_len [1, e.idx, e.term, e.kind] (by simp; omega)
  have h7 := digs_len8 e.data.length (by omega)
  have e8 : (chC (.entry e)).length = (enc [1, e.idx, e.term, e.kind]).length + (textC e.data).length := List.length_append
  rw [Rc.recd_len, e8, textC_len]
  simp only [List.length_cons, List.length_nil] at h
  omega
/-- what a step that was carried out makes of the segments -/
structure Grown (k : Nat) (L : List Sg) (c : Ct) (t : Dk.St) (q : Int × Ct × Dk.St) : Prop where
  lg : q.2.1.lg = c.lg
  segs : ∃ L' S', q.2.1.segs = L' ++ [S'] ∧ L'.length ≤ L.length + 1 ∧ S'.size ≤ 1099511627776
  fs : q.2.2.fs.length ≤ t.fs.length + k
theorem spCreate_ok (n : Nat) (c : Ct) (t : Dk.St) (hn : n ≤ 99999999) (hl : c.lg.last ≤ MI) (h : (spCreate n c t).1 = 0) : (spCreate n c t).2.1.lg = c.lg ∧ (∃ S', (spCreate n c t).2.1.segs = c.segs ++ [S'] ∧ S'.size ≤ 1099511627776) ∧ (spCreate n c t).2.2.fs.length ≤ t.fs.length + 2 := by
  have hb := head_len n (c.lg.last + 1) (by omega) (by unfold MI at hl; omega)
  unfold spCreate at h ⊢
  generalize Rc.recd (chC (.head n (c.lg.last + 1))) = B at hb h ⊢
  obtain ⟨c1, hc1⟩ : ∃ c1 : Ct, (⟨c.lg, c.segs ++ [⟨n, c.lg.last + 1, 0⟩]⟩ : Ct) = c1 := ⟨_, rfl⟩
  rw [hc1] at h ⊢
  have ha := Dk.app_len (segN (lastN c1)) B t
  by_cases h0 : (spWrite B c1 t).1 = 0
  · rw [spRun_ok h0, spRun_one] at h ⊢
    have e1 : (spWrite B c1 t).2.1 = ⟨c1.lg, addSz B.length c1.segs⟩ := if_pos h0
    have hs := Dk.sync_len (segN (lastN (spWrite B c1 t).2.1)) (spWrite B c1 t).2.2
    have e2 : (spWrite B c1 t).2.2.fs.length ≤ t.fs.length + 1 := ha
    refine ⟨?_, ⟨⟨n, c.lg.last + 1, 0 + B.length⟩, ?_, by show 0 + B.length ≤ _; omega⟩, ?_⟩
    · show (spWrite B c1 t).2.1.lg = _
      rw [e1, ← hc1]
    · show (spWrite B c1 t).2.1.segs = _
      rw [e1, ← hc1]
      exact addSz_snoc _ _ _
    · show (Dk.stSync (segN (lastN (spWrite B c1 t).2.1)) (spWrite B c1 t).2.2).2.fs.length ≤ _
      omega
  · rw [spRun_no h0] at h
    exact absurd h h0
theorem spRoom_ok (lim : Nat) {c : Ct} (t : Dk.St) {L : List Sg} {S : Sg} (hs : c.segs = L ++ [S]) (hn : S.num ≤ 99999999) (hz : S.size ≤ 1099511627776) (hl : c.lg.last ≤ MI) (h : (spRoom lim c t).1 = 0) : Grown 3 L c t (spRoom lim c t) := by
  have HRO : spRoom lim c t = if S.size < lim ∨ S.num = 99999999 then (0, c, t) else spRun [spSync, spCreate (S.num + 1)] c t := by unfold spRoom; rw [hs, List.getLast?_append]; rfl
  rw [HRO] at h ⊢
  split at h
  · rename_i h1
    rw [if_pos h1]
    exact ⟨rfl, ⟨L, S, hs, by omega, hz⟩, by show t.fs.length ≤ _; omega⟩
  · rename_i h1
    rw [if_neg h1]
    have hy := Dk.sync_len (segN (lastN c)) t
    by_cases h0 : (spSync c t).1 = 0
    · rw [spRun_ok h0, spRun_one] at h ⊢
      have e1 : (spSync c t).2.1 = c := rfl
      have e2 : (spSync c t).2.2.fs.length ≤ t.fs.length + 1 := hy
      rw [e1] at h ⊢
      obtain ⟨q1, ⟨S', q2, q3⟩, q4⟩ := spCreate_ok (S.num + 1) c (spSync c t).2.2 (by omega) hl h
      exact ⟨q1, ⟨c.segs, S', q2, by rw [hs]; simp, q3⟩, by omega⟩
    · rw [spRun_no h0] at h
      exact absurd h h0
def roomFv (W : Nat) : Fv := ⟨50, #[.pointer (some ⟨W, 0, none⟩)], #[]⟩
theorem roomFv_in (W : Nat) : (roomFv W).In := fun a w => enters_of Tryz.func50 (by kernel_rfl) rfl a w
/-- the three steps by run -/
theorem arun_any {lo W g b lim : Nat} {F : List Nat} {w : World} {c : Ct} {t : Dk.St} (hW : WmS lo W g b lim F w c t) {L : List Sg} {S : Sg} (hs : c.segs = L ++ [S]) (hl : L.length ≤ 880000) (hz : S.size ≤ 1099511627776) (hm : t.fs.length ≤ 870000) (hes : c.lg.es.length ≤ 2000000) (e : E) (he : e.Ok) (hi : e.idx = c.lg.last + 1)
    (X bw1 bb1 bw2 be : Nat) (A : Option Addr) (cap : Nat) (A2 : Option Addr) (n2 cap2 : Nat)
    (hX0 : w.cell? ⟨X, 0, none⟩ = some (roomFv W).val) (hX1 : w.cell? ⟨X, 1, none⟩ = some (writeFv bw1 bb1).val) (hX2 : w.cell? ⟨X, 2, none⟩ = some (addFv bw2 be).val)
    (h1 : w.cell? ⟨bw1, 0, none⟩ = some (.pointer (some ⟨W, 0, none⟩))) (h2 : w.cell? ⟨bb1, 0, none⟩ = some (.slice A2 n2 cap2)) (h3 : w.cell? ⟨bw2, 0, none⟩ = some (.pointer (some ⟨W, 0, none⟩)))
    (k0 : w.cell? ⟨be, 0, none⟩ = some (.int .i64 (e.idx : Int))) (k1 : w.cell? ⟨be, 1, none⟩ = some (.int .i64 (e.term : Int))) (k2 : w.cell? ⟨be, 2, none⟩ = some (.int .i64 (e.kind : Int))) (k3 : w.cell? ⟨be, 3, none⟩ = some (.slice A e.data.length cap))
    (hr : Rd w A e.data.length e.data) (hA : A = none → cap = 0) (hAF : 0 < e.data.length → ∀ a, A = some a → a.block ∉ F) (hr2 : Rd w A2 n2 (Rc.recd (chC (.entry e)))) (hA2 : A2 = none → cap2 = 0) (hAF2 : ∀ a, A2 = some a → a.block ∉ F)
    (hXF : X ∉ F) (o1 : bw1 ∉ F) (o2 : bb1 ∉ F) (o3 : bw2 ∉ F) (o4 : be ∉ F) :
    Calls Tryz.prog 15 #[.slice (some ⟨X, 0, none⟩) 3 3] w (StpI lo W g b lim F w (spAdd lim e c t)) := by
  have hn2 : n2 ≤ 65536 := by rw [← hr2.1]; exact entry_len e he
  have hok : c.lg.last ≤ MI := by obtain ⟨m, ve, vs, xs, hX, _⟩ := hW; exact hX.ct.ok.1.1
  have hnum : S.num ≤ 99999999 := by obtain ⟨m, ve, vs, xs, hX, _⟩ := hW; exact (hX.ct.ok.2 S (by rw [hs]; simp)).2.1
  refine run_sp (some ⟨X, 0, none⟩) 3 3 [(roomFv W, spRoom lim), (writeFv bw1 bb1, spWrite (Rc.recd (chC (.entry e)))), (addFv bw2 be, spLog fun l => l.add e)] c t hW rfl (by unfold maxLen; omega) ⟨rfl, by unfold maxLen; omega, fun _ => ⟨X, 0, rfl, fun i f hi => ?_⟩⟩ (fun _ a ha => by cases ha; exact hXF) (fun f hf => ?_)
    (fun i c' t' => (i ≤ 2 → c'.lg = c.lg) ∧ (i = 0 → c' = c ∧ t' = t) ∧ (i = 1 → (∃ L S, c'.segs = L ++ [S] ∧ L.length ≤ 900000 ∧ S.size ≤ 1099511627776) ∧ t'.fs.length ≤ 900000)) ⟨fun _ => rfl, fun _ => ⟨rfl, rfl⟩, fun h => by omega⟩ (fun i f hi' c' t' hp hr0 => ?_) (fun i f hi' F' w' c' t' hW' hfr hsub hp => ?_)
  · rcases i with _ | _ | _ | i
    · simp at hi; subst hi; exact hX0
    · simp at hi; subst hi; exact hX1
    · simp at hi; subst hi; exact hX2
    · simp at hi
  · simp only [List.mem_cons, List.not_mem_nil, or_false] at hf
    rcases hf with rfl | rfl | rfl
    · exact roomFv_in _
    · exact writeFv_in _ _
    · exact addFv_in _ _
  · obtain ⟨p1, p2, p3⟩ := hp
    rcases i with _ | _ | _ | i
    · simp at hi'
      subst hi'
      obtain ⟨rfl, rfl⟩ := p2 rfl
      have hg := spRoom_ok lim t' hs hnum hz hok hr0
      refine ⟨fun _ => hg.lg, fun h => by omega, fun _ => ⟨?_, by have := hg.fs; show (spRoom lim c' t').2.2.fs.length ≤ _; omega⟩⟩
      obtain ⟨L', S', g1, g2, g3⟩ := hg.segs
      exact ⟨L', S', g1, by omega, g3⟩
    · simp at hi'
      subst hi'
      refine ⟨fun _ => ?_, fun h => by omega, fun h => by omega⟩
      show (if (Dk.stAppend (segN (lastN c')) _ t').1 = 0 then (⟨c'.lg, addSz _ c'.segs⟩ : Ct) else c').lg = _
      split
      · exact p1 (by omega)
      · exact p1 (by omega)
    · exact ⟨fun h => by omega, fun h => by omega, fun h => by omega⟩
    · simp at hi'
  · obtain ⟨p1, p2, p3⟩ := hp
    have q1 := out_of o1 h1 hsub
    have q2 := out_of o2 h2 hsub
    have q3 := out_of o3 h3 hsub
    have q4 := out_of o4 k0 hsub
    obtain ⟨m', ve', vs', xs', hX', rfl⟩ := hW'
    rcases i with _ | _ | _ | i
    · simp at hi'
      subst hi'
      obtain ⟨rfl, rfl⟩ := p2 rfl
      exact room_any hX' hs (by omega) hz (by omega)
    · simp at hi'
      subst hi'
      obtain ⟨⟨L', S', e1, e2, e3⟩, e4⟩ := p3 rfl
      exact write1_any hX' e1 e2 e3 e4 bw1 bb1 (hfr.cell h1 o1) A2 n2 cap2 _ (hfr.cell h2 o2) (Rd.frm hr2 hfr fun _ => hAF2) hA2 hn2 q1 q2
    · simp at hi'
      subst hi'
      exact add1_any hX' (by rw [p1 (by omega)]; exact hes) e he (by rw [p1 (by omega)]; exact hi) bw2 be A cap (hfr.cell h3 o3) (hfr.cell k0 o4) (hfr.cell k1 o4) (hfr.cell k2 o4) (hfr.cell k3 o4) (Rd.frm hr hfr hAF) hA
    · simp at hi'
end Go.Proofs.YtgmpdifggaggdaaGreatDoor.Wl

namespace Go.Proofs.YtgmpdifggaggdaaGreatDoor.Wl
open Go.RowKit Go.Proofs.YtgmpdifggaggdaaGreatDoor.Fld
set_option linter.unusedVariables false

set_option maxRecDepth 100000 in
set_option maxHeartbeats 3200000 in
theorem wadd_any {lo W g b lim : Nat} {m : List Dk.Ent} {ve vs : Value} {xs : List EA} {w : World} {c : Ct} {t : Dk.St} (h : WmX lo W g b lim m ve vs xs w c t) {L : List Sg} {S : Sg} (hs : c.segs = L ++ [S]) (hl : L.length ≤ 880000) (hz : S.size ≤ 1099511627776) (hm : t.fs.length ≤ 870000) (hes : c.lg.es.length ≤ 2000000) (e : E) (he : e.Ok) (hi : e.idx = c.lg.last + 1)
    (A : Option Addr) (cap : Nat) (hr : Rd w A e.data.length e.data) (hA : A = none → cap = 0) (hAF : 0 < e.data.length → ∀ a, A = some a → a.block ∉ WFt W g b m ve vs) :
    Calls Tryz.prog 23 #[.pointer (some ⟨W, 0, none⟩), entV e A cap] w (StpI lo W g b lim (WFt W g b m ve vs) w (spAdd lim e c t)) := by
  have HX := Lib.hid h
  have HS := Lib.hid hs
  have HE := Lib.hid he
  have HI := Lib.hid hi
  have HR := Lib.hid hr
  have HAF := Lib.hid hAF
  have HA := Lib.hid hA
  have HOUT := Lib.hid (show ∀ i, w.heap.size ≤ i → i ∉ WFt W g b m ve vs from fun i hi hm => by have := HX.out.lt i hm; omega)
  obtain ⟨w1, hw1⟩ : ∃ w1, w.alloc (.cells #[.pointer (some ⟨W, 0, none⟩)] 33) = w1 := ⟨_, rfl⟩
  have b1 := Blk.new w #[.pointer (some ⟨W, 0, none⟩)] 33
  have z1 : w1.heap.size = w.heap.size + 1 := by rw [← hw1]; simp
  obtain ⟨w2, hw2⟩ : ∃ w2, w1.alloc (.cells #[.int .i64 (e.idx : Int), .int .i64 (e.term : Int), .int .i64 (e.kind : Int), .slice A e.data.length cap] 49) = w2 := ⟨_, rfl⟩
  have b2 := Blk.new w1 #[.int .i64 (e.idx : Int), .int .i64 (e.term : Int), .int .i64 (e.kind : Int), .slice A e.data.length cap] 49
  have b12 := b1.past (.cells #[.int .i64 (e.idx : Int), .int .i64 (e.term : Int), .int .i64 (e.kind : Int), .slice A e.data.length cap] 49)
  rw [hw1] at b1 b12
  rw [hw2] at b2 b12
  rw [z1] at b2
  have hb2 : Below w.heap.size w w2 := by
    rw [← hw2, ← hw1]
    exact (alloc_below' w _).trans ((alloc_below' _ _).mono (by simp))
  have HB2 := Lib.hid hb2
  have HC := Lib.hid (show ∀ w', Below w2.heap.size w2 w' → w'.cell? ⟨w.heap.size, 0, none⟩ = some (.pointer (some ⟨W, 0, none⟩)) ∧ w'.cell? ⟨w.heap.size + 1, 0, none⟩ = some (.int .i64 (e.idx : Int)) ∧ w'.cell? ⟨w.heap.size + 1, 1, none⟩ = some (.int .i64 (e.term : Int)) ∧ w'.cell? ⟨w.heap.size + 1, 2, none⟩ = some (.int .i64 (e.kind : Int)) ∧ w'.cell? ⟨w.heap.size + 1, 3, none⟩ = some (.slice A e.data.length cap) from fun w' hb => ⟨(hb.cell (lt_of_cell (b12.cell 0 _ rfl))).trans (b12.cell 0 _ rfl), (hb.cell (lt_of_cell (b2.cell 0 _ rfl))).trans (b2.cell 0 _ rfl), (hb.cell (lt_of_cell (b2.cell 1 _ rfl))).trans (b2.cell 1 _ rfl), (hb.cell (lt_of_cell (b2.cell 2 _ rfl))).trans (b2.cell 2 _ rfl), (hb.cell (lt_of_cell (b2.cell 3 _ rfl))).trans (b2.cell 3 _ rfl)⟩)
  have HER := Lib.hid (fun (w' : World) (hb : Below w.heap.size w w') => entryRecord_any e A cap w' he (hr.below hb) hA)
  have HW1 := Lib.hid hw1
  have HW2 := Lib.hid hw2
  have HWS := Lib.hid (show w.heap.size < w2.heap.size ∧ w.heap.size + 1 < w2.heap.size from ⟨b12.lt, b2.lt⟩)
  obtain ⟨n, hn⟩ : ∃ n, e.data.length = n := ⟨_, rfl⟩
  have HN := Lib.hid hn
  unfold entV at HER ⊢
  clear h hs he hi hr hA hAF b1 b2 b12 hb2 z1 hw1 hw2
  rw [hn] at HC HER HW2 ⊢
  clear hn
  go_enter Tryz.func23, Tryz.ntmps23
  go_wp2_with fail
  rw [HW1.out, HW2.out]
  obtain ⟨x0, x1, x2, x3, x4⟩ := HC.out w2 (Below.refl _ _)
  have HBE := Lib.hid (Nat.le_succ w.heap.size)
  rw [show w.heap.size.succ = w.heap.size + 1 from rfl] at HBE
  generalize w.heap.size + 1 = be at *
  go_region_held3 (fun w' => w'.cell? ⟨w.heap.size, 0, none⟩ = some (.pointer (some ⟨W, 0, none⟩)) ∧ w'.cell? ⟨be, 0, none⟩ = some (.int .i64 (e.idx : Int)) ∧ w'.cell? ⟨be, 1, none⟩ = some (.int .i64 (e.term : Int)) ∧ w'.cell? ⟨be, 2, none⟩ = some (.int .i64 (e.kind : Int)) ∧ w'.cell? ⟨be, 3, none⟩ = some (.slice A n cap)) (first | exact ⟨by assumption, by assumption, by assumption, by assumption, by assumption⟩ | go_keep) (first
    | (go_at_call 52; refine (HER.out _ (by first | exact HB2.out | exact HB2.out.drew)).mono ?_; rintro e5 w5 ⟨v5, rfl, hO5⟩; have HB5 := Lib.hid (show Below w2.heap.size w2 w5 from (by first | exact hO5.1 | exact (Below.refl _ _).drew.trans hO5.1)); obtain ⟨A5, c5, rfl, hs5, ha5⟩ := hO5.sl _ rfl; have HSL5 := Lib.hid hs5; have HA5 := Lib.hid (show ∀ a, A5 = some a → w2.heap.size ≤ a.block from ha5); obtain ⟨q0, q1, q2, q3, q4⟩ := HC.out w5 HB5.out; clear hO5 hs5 ha5)
    | (go_at_call 51; refine (writing_any W A5 _ c5 _).mono ?_; rintro e6 w6 ⟨bw6, bb6, rfl, hc6, hd6, hl6, hl6', hb6⟩; have HB6 := Lib.hid (HB5.out.trans (hb6.mono HB5.out.size)); have HC6 := Lib.hid (And.intro hc6 hd6); have HL6 := Lib.hid (And.intro (Nat.le_trans HB5.out.size hl6) (Nat.le_trans HB5.out.size hl6')); have HRD6 := Lib.hid (Rd.below HSL5.out.1 hb6); obtain ⟨r0, r1, r2, r3, r4⟩ := HC.out w6 HB6.out; unfold Fv.val writeFv; clear hc6 hd6 hl6 hl6' hb6)
    | (go_at_call 15; have HBX := Lib.hid (HB6.out.alloc HB6.out.size (.cells #[(roomFv W).val, (writeFv bw6 bb6).val, (addFv w.heap.size be).val] 78)); have HBW := Lib.hid (HB2.out.trans (HBX.out.mono HB2.out.size)); obtain ⟨t0, t1, t2, t3, t4⟩ := HC.out _ HBX.out; refine (arun_any (F := WFt W g b m ve vs) (w := w6.alloc (.cells #[(roomFv W).val, (writeFv bw6 bb6).val, (addFv w.heap.size be).val] 78)) ⟨m, ve, vs, xs, HX.out.below HBW.out, rfl⟩ HS.out hl hz hm hes e HE.out HI.out w6.heap.size bw6 bb6 w.heap.size be A cap A5 _ c5 ((Blk.new w6 _ _).cell 0 _ rfl) ((Blk.new w6 _ _).cell 1 _ rfl) ((Blk.new w6 _ _).cell 2 _ rfl) (((alloc_below' w6 _).cell (lt_of_cell HC6.out.1)).trans HC6.out.1) (((alloc_below' w6 _).cell (lt_of_cell HC6.out.2)).trans HC6.out.2) t0 t1 t2 t3 (by rw [HN.out]; exact t4) (HR.out.below HBW.out) HA.out HAF.out (HRD6.out.below (alloc_below' w6 _)) HSL5.out.2.2.2.1 (fun a ha => HOUT.out _ (Nat.le_trans HB2.out.size (HA5.out a ha))) (HOUT.out _ (Nat.le_trans HB2.out.size HB6.out.size)) (HOUT.out _ (Nat.le_trans HB2.out.size HL6.out.1)) (HOUT.out _ (Nat.le_trans HB2.out.size HL6.out.2)) (HOUT.out _ (Nat.le_refl _)) (HOUT.out _ HBE.out)).mono ?_; rintro e8 w8 ⟨rfl, hQ⟩; have HQ := Lib.hid hQ; obtain ⟨F8, hW8, hF8, hS8⟩ := hQ; have u0 := hF8.cell t0 (HOUT.out _ (Nat.le_refl _)); have u1 := hF8.cell t1 (HOUT.out _ HBE.out); have u2 := hF8.cell t2 (HOUT.out _ HBE.out); have u3 := hF8.cell t3 (HOUT.out _ HBE.out); have u4 := hF8.cell t4 (HOUT.out _ HBE.out); clear hW8 hF8 hS8 t0 t1 t2 t3 t4))
  all_goals (try go_wp2_with fail)
  all_goals go_ret
  all_goals exact StpI.then (Dk.Fr.below HBW.out) (fun i hi => .inl hi) ⟨rfl, HQ.out⟩
end Go.Proofs.YtgmpdifggaggdaaGreatDoor.Wl

namespace Go.Proofs.YtgmpdifggaggdaaGreatDoor.Wl
open Go.RowKit Go.Proofs.YtgmpdifggaggdaaGreatDoor.Fld
set_option linter.unusedVariables false

/-- the log is begun anew -/
theorem WmX.resetE {lo W g b lim : Nat} {m : List Dk.Ent} {ve vs : Value} {xs : List EA} {w w' : World} {c : Ct} {t : Dk.St} (h : WmX lo W g b lim m ve vs xs w c t) (i : Nat) (hi : i ≤ MI + 1) (hb : Blk w' W (((wcs g lim c ve vs).setIfInBounds 3 (.int .i64 ((i - 1 : Nat) : Int))).setIfInBounds (3 + 1) (.slice none 0 0)) 61) (hf : Dk.Fr [W] w w') :
    WmX lo W g b lim m (.slice none 0 0) vs [] w' ⟨Lg.restart i, c.segs⟩ t ∧ Dk.Fr (WFt W g b m ve vs) w w' ∧ ∀ j ∈ WFt W g b m (.slice none 0 0) vs, j ∈ WFt W g b m ve vs ∨ w.heap.size ≤ j := by
  have hsub : ∀ j ∈ WFt W g b m (.slice none 0 0) vs, j ∈ WFt W g b m ve vs := by
    intro j hj
    unfold WFt CtF at hj ⊢
    simp only [List.mem_cons, List.mem_append, Option.mem_toList] at hj ⊢
    rcases hj with h1 | h1 | h1 | h1 | h1 | h1
    · exact .inl h1
    · exact .inr (.inl h1)
    · exact .inr (.inr (.inl h1))
    · exact .inr (.inr (.inr (.inl h1)))
    · cases h1
    · exact .inr (.inr (.inr (.inr (.inr h1))))
  have hWF : W ∈ WFt W g b m ve vs := by simp [WFt, CtF]
  have hfrW : Dk.Fr (WFt W g b m ve vs) w w' := hf.mono fun j hj => by simp only [List.mem_singleton] at hj; rw [hj]; exact hWF
  refine ⟨⟨h.im.of_blocks fun j hj => hf.block j (h.im.lt j hj) (fun hm => by simp only [List.mem_singleton] at hm; subst hm; exact h.W_off hj), ?_, ?_, h.base_fr hfrW h.low, fun j hj => h.low j (hsub j hj), h.glo, h.lim1, h.lim2⟩, hfrW, fun j hj => .inl (hsub j hj)⟩
  · exact h.ct.empty (i := i) (segs' := c.segs) hb rfl rfl rfl (row_of h.ct.rS (fun j hj => hf.block j (row_lo h.ct.rS j hj).2 (by have := row_ne h.ct.rS h.ct.blk h.ct.t2; intro hm; simp at hm; subst hm; exact this hj))) ⟨Lg.Ok.restart hi, h.ct.ok.2⟩
  · rintro j (h1 | h1 | h1 | ⟨x, hx, h1⟩)
    · exact h.apart j (.inl h1)
    · cases h1
    · exact h.apart j (.inr (.inr (.inl h1)))
    · simp at hx
end Go.Proofs.YtgmpdifggaggdaaGreatDoor.Wl

namespace Go.Proofs.YtgmpdifggaggdaaGreatDoor.Wl
open Go.RowKit Go.Proofs.YtgmpdifggaggdaaGreatDoor.Fld
set_option linter.unusedVariables false

/-- a record is written, then the log is changed: by run -/
theorem wlrun_any {lo W g b lim : Nat} {F : List Nat} {w : World} {c : Ct} {t : Dk.St} (hW : WmS lo W g b lim F w c t) {L : List Sg} {S : Sg} (hs : c.segs = L ++ [S]) (hl : L.length ≤ 900000) (hz : S.size ≤ 1099511627776) (hm : t.fs.length ≤ 890000) (X bw1 bb1 : Nat) (A : Option Addr) (n cap : Nat) (ys : List Int) (f2 : Fv) (s2 : Sp) (hin : f2.In)
    (hX0 : w.cell? ⟨X, 0, none⟩ = some (writeFv bw1 bb1).val) (hX1 : w.cell? ⟨X, 1, none⟩ = some f2.val) (h1 : w.cell? ⟨bw1, 0, none⟩ = some (.pointer (some ⟨W, 0, none⟩))) (h2 : w.cell? ⟨bb1, 0, none⟩ = some (.slice A n cap))
    (hr : Rd w A n ys) (hA : A = none → cap = 0) (hn : n ≤ 65536) (hAF : ∀ a, A = some a → a.block ∉ F) (hXF : X ∉ F) (o1 : bw1 ∉ F) (o2 : bb1 ∉ F)
    (hs2 : ∀ F' w' c' t', WmS lo W g b lim F' w' c' t' → Dk.Fr F w w' → (∀ j ∈ F', j ∈ F ∨ w.heap.size ≤ j) → c'.lg = c.lg → Calls Tryz.prog f2.k f2.args w' (StpI lo W g b lim F' w' (s2 c' t'))) :
    Calls Tryz.prog 15 #[.slice (some ⟨X, 0, none⟩) 2 2] w (StpI lo W g b lim F w (spRun [spWrite ys, s2] c t)) := by
  refine run_sp (some ⟨X, 0, none⟩) 2 2 [(writeFv bw1 bb1, spWrite ys), (f2, s2)] c t hW rfl (by unfold maxLen; omega) ⟨rfl, by unfold maxLen; omega, fun _ => ⟨X, 0, rfl, fun i f hi => ?_⟩⟩ (fun _ a ha => by cases ha; exact hXF) (fun f hf => ?_)
    (fun i c' t' => (i ≤ 1 → c'.lg = c.lg) ∧ (i = 0 → c' = c ∧ t' = t)) ⟨fun _ => rfl, fun _ => ⟨rfl, rfl⟩⟩ (fun i f hi' c' t' hp hr0 => ?_) (fun i f hi' F' w' c' t' hW' hfr hsub hp => ?_)
  · rcases i with _ | _ | i
    · simp at hi; subst hi; exact hX0
    · simp at hi; subst hi; exact hX1
    · simp at hi
  · simp only [List.mem_cons, List.not_mem_nil, or_false] at hf
    rcases hf with rfl | rfl
    · exact writeFv_in _ _
    · exact hin
  · obtain ⟨p1, p2⟩ := hp
    rcases i with _ | _ | i
    · simp at hi'
      subst hi'
      refine ⟨fun _ => ?_, fun h => by omega⟩
      show (if (Dk.stAppend (segN (lastN c')) _ t').1 = 0 then (⟨c'.lg, addSz _ c'.segs⟩ : Ct) else c').lg = _
      split
      · exact p1 (by omega)
      · exact p1 (by omega)
    · exact ⟨fun h => by omega, fun h => by omega⟩
    · simp at hi'
  · obtain ⟨p1, p2⟩ := hp
    rcases i with _ | _ | i
    · simp at hi'
      subst hi'
      obtain ⟨rfl, rfl⟩ := p2 rfl
      have q1 := out_of o1 h1 hsub
      have q2 := out_of o2 h2 hsub
      obtain ⟨m', ve', vs', xs', hX', rfl⟩ := hW'
      exact write1_any hX' hs hl hz (by omega) bw1 bb1 (hfr.cell h1 o1) A n cap ys (hfr.cell h2 o2) (Rd.frm hr hfr fun _ => hAF) hA hn q1 q2
    · simp at hi'
      subst hi'
      exact hs2 F' w' c' t' hW' hfr hsub (p1 (by omega))
    · simp at hi'
theorem reset_len (i : Nat) (hi : i ≤ 1099511627777) : (Rc.recd (chC (.reset i))).length ≤ 65536 := by
  have h := enc_len [3, i] (by simp; omega)
  have e : (chC (.reset i)).length = (enc [3, i]).length := rfl
  rw [Rc.recd_len, e]
  simp only [List.length_cons, List.length_nil] at h
  omega
end Go.Proofs.YtgmpdifggaggdaaGreatDoor.Wl

namespace Go.Proofs.YtgmpdifggaggdaaGreatDoor.Wl
open Go.RowKit Go.Proofs.YtgmpdifggaggdaaGreatDoor.Fld
set_option linter.unusedVariables false

end Go.Proofs.YtgmpdifggaggdaaGreatDoor.Wl
