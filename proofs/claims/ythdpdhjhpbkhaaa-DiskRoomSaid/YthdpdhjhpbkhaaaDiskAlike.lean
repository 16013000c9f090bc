/-
  Two disks that hold the same: alike answers true. Conditions: both lie in memory that they do not share (Pair), in one state.
-/
import Derived.Test.YthdpdhjhpbkhaaaDiskAll
namespace Go.Proofs.Ythdpdhjhpbkhaaa.Dk
open Go.RowKit Go.Proofs.Ythdpdhjhpbkhaaa.Fld
set_option linter.unusedVariables false

theorem below_drewN {B : Nat} {a w : World} (h : Below B a w) (n : Nat) : Below B a (w.drewN n) := h.trans ⟨rfl, rfl, rfl, Nat.le_refl _, fun _ _ => rfl⟩
theorem below_drews (w : World) (n : Nat) : Below w.heap.size w (w.drewN n) := below_drewN (Below.refl _ _) n
def nameOf (f : Fil) : ByteArray := ⟨f.1.toArray⟩
theorem names_eq {m : List Ent} {fs : List Fil} (h : fs = m.map Ent.fil) : (m.map fun e => (⟨e.nm.toArray⟩ : ByteArray)) = fs.map nameOf := by rw [h, List.map_map]; rfl
theorem size_quiet (g b : Nat) (t : St) (w : World) (n : Nat) (h : DskT w g b t) : Calls Try.prog 19 #[.pointer (some ⟨g, 0, none⟩)] (w.drewN n) fun e w'' => e = .returned (.int .i64 (total t.fs : Nat)) ∧ ∃ k, w'' = w.drewN k :=
  (size_any g b t (w.drewN n) (Dsk.of_block h rfl)).mono fun _ _ ⟨he, hw⟩ => ⟨he, n, hw.symm⟩
theorem off_quiet (g b : Nat) (t : St) (w : World) (n : Nat) (h : DskT w g b t) : Calls Try.prog 22 #[.pointer (some ⟨g, 0, none⟩)] (w.drewN n) fun e w'' => e = .returned (.bool t.off) ∧ ∃ k, w'' = w.drewN k :=
  (off_any g b t (w.drewN n) (Dsk.of_block h rfl)).mono fun _ _ ⟨he, hw⟩ => ⟨he, n, hw.symm⟩
theorem rds_below {w w' : World} {A : Option Addr} {n : Nat} {ss : List ByteArray} (h : RdS w A n ss) (hb : Below w.heap.size w w') : RdS w' A n ss := by
  obtain ⟨h1, h2, h3⟩ := h
  refine ⟨h1, h2, fun hn => ?_⟩
  obtain ⟨b, off, e, hc⟩ := h3 hn
  exact ⟨b, off, e, fun i hi => (hb.cell (lt_of_cell (hc i hi))).trans (hc i hi)⟩
def AlR (w : World) (N : Nat) (i : Value) (wr : World) : Prop := ∃ k : Nat, k ≤ N ∧ i = .int .i64 (k : Int) ∧ Below w.heap.size w wr
set_option maxRecDepth 100000 in
set_option maxHeartbeats 6400000 in
theorem alike_any {w0 w : World} {g b : Nat} {m : List Ent} {t : St} {r : Nat} {lv : Value} {mr : List Ent} (h : Pair w0 w g b m t r lv mr t) (hm : t.fs.length ≤ 900000) :
    Calls Try.prog 14 #[.pointer (some ⟨g, 0, none⟩), .pointer (some ⟨r, 0, none⟩)] w fun e w' => e = .returned (.bool true) ∧ Below w.heap.size w w' := by
  have HP := Lib.hid h
  have HN1 := Lib.hid (names_any g b m t w h.sn.1 (by omega))
  have HN2 := Lib.hid (fun w1 (hb : Below w.heap.size w w1) => rnames_any r lv mr t w1 (h.below hb).rf (by omega))
  have HE1 := Lib.hid (names_eq h.sn.1.fs)
  have HE2 := Lib.hid (names_eq h.rf.fs)
  have HL1 := Lib.hid h.sn.1.len
  have HL2 := Lib.hid h.rf.len
  have HOK := Lib.hid (show ∀ f ∈ t.fs, (nameOf f).size ≤ maxLen from fun f hf => by
    have h1 := h.rf.good.name f hf
    unfold okN at h1
    simp only [Bool.and_eq_true, decide_eq_true_eq] at h1
    have h2 : (nameOf f).size = f.1.length := by simp [nameOf, ByteArray.size]
    rw [h2]; unfold maxLen; omega)
  have hnN : t.fs.length ≤ 900000 := hm
  clear h
  go_enter Try.func14, Try.ntmps14
  go_wp2_with fail
  refine HN1.out.mono ?_
  rintro e w1 ⟨A1, c1, rfl, hs1, _, hb1⟩
  rw [HE1.out, HL1.out] at hs1
  rw [HL1.out]
  have HS1 := Lib.hid hs1
  have HB1 := Lib.hid hb1
  have HN2' := Lib.hid (HN2.out w1 hb1)
  clear hs1 hb1 HN1 HN2
  go_wp2_with fail
  refine HN2'.out.mono ?_
  rintro e w2 ⟨A2, c2, rfl, hs2, _, hb2⟩
  rw [HE2.out, HL2.out] at hs2
  rw [HL2.out]
  have HS2 := Lib.hid hs2
  have HB2 := Lib.hid (HB1.out.trans (hb2.mono HB1.out.size))
  have HS1b := Lib.hid (rds_below HS1.out hb2)
  have HP2 := Lib.hid (HP.out.below HB2.out)
  clear hs2 hb2 HN2' HS1
  generalize hN : t.fs.length = N at *
  have HNN := Lib.hid hN
  clear hN
  obtain ⟨LA, lcap, hlv, hd, _⟩ := HP2.out.rf.form
  obtain ⟨d0, d1, d2, d3, d4⟩ := hd.cells
  have HQ1 := Lib.hid (fun k => size_quiet g b t w2 k HP2.out.sn.1.dsk)
  have HQ2 := Lib.hid (fun k => rsize_quiet r lv mr t w2 k HP2.out.rf (by rw [HNN.out]; omega))
  have HQ3 := Lib.hid (fun k => off_quiet g b t w2 k HP2.out.sn.1.dsk)
  clear hd hlv
  have e1 : ((N : Int) != (N : Int)) = false := by simp
  have e2 : (((total t.fs : Nat) : Int) != ((total t.fs : Nat) : Int)) = false := by simp
  have e3 : (t.off != t.off) = false := by simp
  go_wp2_with fail
  go_quiet ((first | (go_at_call 19; exact HQ1.out _) | (go_at_call 35; exact HQ2.out _) | (go_at_call 22; exact HQ3.out _)))
  have HP3 := Lib.hid (HP2.out.below (below_drews w2 nq))
  have HS13 := Lib.hid (rds_below HS1b.out (below_drews w2 nq))
  have HS23 := Lib.hid (rds_below HS2.out (below_drews w2 nq))
  have HB3 := Lib.hid (below_drewN HB2.out nq)
  clear d0 d1 d2 d3 d4 HQ1 HQ2 HQ3 e1 e2 e3 HS1b HS2 HP2
  generalize w2.drewN nq = w3 at *
  go_wp2_with fail
  go_loopw [7] (fun i wr => AlR w3 N i wr) (fun i _ => N - (intOf i).toNat)
  case atStart => exact ⟨0, by omega, rfl, Below.refl _ _⟩
  case round =>
    obtain ⟨k, hk, rfl, hb⟩ := hrel
    have HB := Lib.hid hb
    clear hb
    by_cases hlt : k < N
    · have hkl : k < t.fs.length := by rw [HNN.out]; exact hlt
      obtain ⟨s, hs⟩ : ∃ s, s = (t.fs.map nameOf).getD k ⟨#[]⟩ := ⟨_, rfl⟩
      have hss : s.size ≤ maxLen := by
        rw [hs, List.getD_eq_getElem?_getD, List.getElem?_map, List.getElem?_eq_getElem hkl]
        exact HOK.out _ (List.getElem_mem hkl)
      obtain ⟨b1, o1, rfl, hc1⟩ := HS13.out.2.2 (by omega)
      obtain ⟨b2, o2, rfl, hc2⟩ := HS23.out.2.2 (by omega)
      have hk1 := hc1 k hlt
      have hk2 := hc2 k hlt
      rw [← hs] at hk1 hk2
      have HK1 := Lib.hid hk1
      have HK2 := Lib.hid hk2
      have g2 := (HB.out.cell (lt_of_cell hk2)).trans hk2
      have HRD := Lib.hid (read_any g b m t s wr (HP3.out.below HB.out).sn.1)
      clear hc1 hc2 hk1 hk2 hs
      go_wp2_with fail
      refine HRD.out.mono ?_
      rintro e w5 ⟨A5, n5, c5, rfl, hs5, _, hb5⟩
      have HS5 := Lib.hid hs5
      have HB5 := Lib.hid (HB.out.trans (hb5.mono HB.out.size))
      have g5 := (HB5.out.cell (lt_of_cell HK2.out)).trans HK2.out
      clear hs5 hb5 g2 HRD
      go_wp2_with fail
      refine (rread_any r lv mr t s w5 (HP3.out.below HB5.out).rf (by rw [HNN.out]; omega) hss).mono ?_
      rintro e w6 ⟨A6, n6, c6, rfl, hs6, _, hb6⟩
      have HB6 := Lib.hid (HB5.out.trans (hb6.mono HB5.out.size))
      have g6 := (HB6.out.cell (lt_of_cell HK2.out)).trans HK2.out
      have g7 := (HB6.out.cell (lt_of_cell HK1.out)).trans HK1.out
      have q1 := fun i => conv_str (hs6.1.drewN i) c6
      have q2 := fun i => conv_str ((HS5.out.1.below hb6).drewN i) c5
      clear hs6 hb6 g5
      generalize (stRead s.data.toList t).1 = C at *
      have j1 : ((str (stRead s.data.toList t).2).toList == (str (stRead s.data.toList t).2).toList) = true := by simp
      have j2 : (s.toList == s.toList) = true := by simp
      have j3 : (C != C) = false := by simp
      generalize str (stRead s.data.toList t).2 = z at *
      have i0 : (0 : Int) ≤ (k : Int) := by omega
      have i1 : (k : Int) < (N : Int) := by omega
      go_wp2_with fail
      go_quiet (fail)
      have HB7 := Lib.hid (below_drewN HB6.out nq)
      go_wp2
      go_roundw
      case rel => exact ⟨k + 1, by omega, by go_num, HB7.out⟩
      case measure => simp [intOf]; omega
    · obtain rfl : k = N := by omega
      go_wp2
      go_ret
      exact ⟨rfl, HB3.out.trans (HB.out.mono HB3.out.size)⟩
end Go.Proofs.Ythdpdhjhpbkhaaa.Dk
