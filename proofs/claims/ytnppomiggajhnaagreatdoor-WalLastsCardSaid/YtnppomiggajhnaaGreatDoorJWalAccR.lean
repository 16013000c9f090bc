/-
  Several texts in one: Layer 6: content.accept in the program, fifth part: a RESET. Conditions: the content lies in memory (Cont), the record's content can be read. Layer 6: content.accept in the program, sixth part: a CUT that takes all, or nothing. Conditions: the content lies in memory (Cont), the record's content can be read. Layer 6: content.accept in the program, seventh part: a CUT that takes some entries. Conditions: the content lies in memory (Cont), the record's content can be read. Layer 6: content.accept in the program, eighth part: an ENTRY that does not follow. Conditions: the content lies in memory (Cont), the record's content can be read. Layer 6: content.accept in the program, ninth part: an ENTRY that is taken. Conditions: the content lies in memory (Cont), the record's content can be read. Layer 6: content.accept in the program, whole: it does what acc says. Conditions: the content lies in memory (ContX), the record's content can be read; behind a HEAD there is a segment. Layer 6: segmentNumbers in the program. Conditions: the disk lies in memory as it was made; the library's tables are as they were.
-/
import Derived.Test.YtnppomiggajhnaaGreatDoorJWalBeg
import Derived.Test.YtnppomiggajhnaaGreatDoorJWalLog
import Derived.Test.YtnppomiggajhnaaGreatDoorJDiskRead
namespace Go.Proofs.YtnppomiggajhnaaGreatDoor.Wl
open Go.RowKit Go.Proofs.YtnppomiggajhnaaGreatDoor.Fld
set_option linter.unusedVariables false

set_option maxRecDepth 100000 in
set_option maxHeartbeats 6400000 in
theorem acc_reset {lo B o : Nat} {ty : TypeId} {FT : List Nat} {c : Ct} (num : Nat) (A : Option Addr) (n cap : Nat) (b : List Int) (w : World) (i : Nat) (h : ContS lo B o ty FT w c) (hlo : lo ≤ w.heap.size) (hr : Rd w A n b) (hA : A = none → cap = 0) (hn : n ≤ 65536) (hd : dec b = some (.reset i)) (L : List Sg) (S : Sg) (hs : c.segs = L ++ [S]) (hLl : L.length ≤ 2000000) (hz : S.size ≤ 1099511627776) :
    Calls Tryz.prog 135 #[.pointer (some ⟨B, o, none⟩), .int .i64 (num : Int), .bool false, .slice A n cap] w (Accd lo B o ty FT w ⟨Lg.restart i, addSz (8 + n) c.segs⟩) := by
  have HD := Lib.hid (decode_any A n cap b w hr hA (by omega))
  have hok := dec_ok hr.2.2.1 hd
  clear hr hA
  have hloB := h.1
  unfold Accd
  go_enter Tryz.func135, Tryz.ntmps135
  go_wp2_with fail
  refine HD.out.mono ?_
  rintro e w1 ⟨v, A2, cap2, rfl, _, h0, hb⟩
  have hv := (h0 _ hd).1
  subst hv
  rw [hd]
  simp only [Option.isSome_some]
  have HB := Lib.hid (hb.trans ((alloc_below' w1 (.cells #[.int .i64 3, .int .i64 0, .int .i64 (i : Int), .int .i64 0, .int .i64 0, .int .i64 0, .slice none 0 0] 171)).mono hb.size))
  have HC := Lib.hid ((h.below hb).below (alloc_below' w1 (.cells #[.int .i64 3, .int .i64 0, .int .i64 (i : Int), .int .i64 0, .int .i64 0, .int .i64 0, .slice none 0 0] 171)))
  have HH := Lib.hid (Blk.new w1 #[.int .i64 3, .int .i64 0, .int .i64 (i : Int), .int .i64 0, .int .i64 0, .int .i64 0, .slice none 0 0] 171)
  clear h0 hb hd h
  unfold chV
  obtain ⟨k1, k2⟩ := hok
  unfold MI at k2
  obtain ⟨_, cs, ve, vs3, xs, hct, hFT⟩ := HC.out
  subst hFT
  have HCT := Lib.hid hct
  have HS := Lib.hid hs
  clear hct hs
  go_wp2_with fail
  obtain ⟨wa, hwa⟩ : ∃ wa, w1.alloc (.cells #[.int .i64 3, .int .i64 0, .int .i64 (i : Int), .int .i64 0, .int .i64 0, .int .i64 0, .slice none 0 0] 171) = wa := ⟨_, rfl⟩
  rw [hwa] at HB HCT HH ⊢
  have d2 := HH.out.cell 2 _ rfl
  have HRS := Lib.hid (show ∀ wq : World, wq.heap = wa.heap → wq.os = wa.os → wq.tape = wa.tape → wq.output = wa.output → Calls Tryz.prog 72 #[.pointer (some ⟨B, o, none⟩), .int .i64 (i : Int)] wq fun e w' => e = .returned (.tuple #[]) ∧ Blk w' B (rest2 cs o i) ty ∧ Dk.Fr [B] wa w' from fun wq q1 q2 q3 q4 => (restart_any B o cs ty i wq (by unfold Blk; rw [q1]; exact HCT.out.blk) _ _ HCT.out.c0 HCT.out.c1 k1 (by omega)).mono fun _ _ ⟨he, hb, hf⟩ => ⟨he, hb, ⟨hf.os.trans q2, hf.tape.trans q3, hf.output.trans q4, by rw [← q1]; exact hf.size, fun k hk hn => by rw [hf.block k (by rw [q1]; exact hk) hn, q1]⟩⟩)
  go_region_with ((go_at_call 72; refine (HRS.out _ (by exact rfl) (by exact rfl) (by exact rfl) (by exact rfl)).mono ?_; rintro e w3 ⟨rfl, hb1, hf1⟩; have HBw := Lib.hid hb1; have HF1 := Lib.hid hf1; clear hb1 hf1))
  have HC3 := Lib.hid (HCT.out.empty (i := i) (segs' := c.segs) HBw.out (rest2_0 HCT.out.c0) (rest2_1 HCT.out.c1) (show (rest2 cs o i)[o + 2]? = some vs3 by rw [rest2_at _ _ _ _ (by omega)]; exact HCT.out.c2) (row_of HCT.out.rS (fun j hj => HF1.out.block j (row_lo HCT.out.rS j hj).2 (by have := row_ne HCT.out.rS HCT.out.blk HCT.out.t2; intro hm; simp at hm; subst hm; exact this hj))) ⟨Lg.Ok.restart (by unfold MI; omega), HCT.out.ok.2⟩)
  have HBL := Lib.hid (show Dk.Fr (CtF B ve vs3) w w3 from (Dk.Fr.below HB.out).trans HF1.out (fun j hj => .inl (ctf_B j hj)))
  have HSUB := Lib.hid (show ∀ j ∈ CtF B (.slice none 0 0) vs3, j ∈ CtF B ve vs3 ∨ w.heap.size ≤ j from ctf_sub (fun _ h => by simp [Value.ownBlock] at h) (fun _ h => .inl h))
  clear d2 hwa
  obtain ⟨c3, hc3⟩ : ∃ c3 : Ct, Ct.mk (Lg.restart i) c.segs = c3 := ⟨_, rfl⟩
  rw [hc3] at HC3
  obtain ⟨SZ, hSZ0⟩ : ∃ SZ : Nat, S.size = SZ := ⟨_, rfl⟩
  have hz0 : SZ ≤ 1099511627776 := by rw [← hSZ0]; exact hz
  have HS3 := Lib.hid (show c3.segs = L ++ [S] by rw [← hc3]; exact HS.out)
  have HSZ0 := Lib.hid hSZ0
  have HRES := Lib.hid (show (Ct.mk c3.lg (addSz (8 + n) c3.segs)) = ⟨Lg.restart i, addSz (8 + n) c.segs⟩ by rw [← hc3])
  clear hc3 hSZ0 hz
  obtain ⟨q, cp, hvq⟩ := HC3.out.seg_form HS3.out
  have HRS := Lib.hid HC3.out.rS
  obtain ⟨m, hm⟩ : ∃ m, L.length + 1 = m := ⟨_, rfl⟩
  rw [hm] at hvq
  obtain ⟨pp, hpp⟩ : ∃ pp, (m - 1) * 3 = pp := ⟨_, rfl⟩
  have HLS := Lib.hid (lastSeg_any B o q m cp _ ty w3 HC3.out.blk (by rw [HC3.out.c2, hvq]) (by omega) (by omega))
  rw [hpp] at HLS
  have HQ := Lib.hid (show vs3.ownBlock = some q by rw [hvq]; rfl)
  have HRW := Lib.hid (show w3.ownsRow lo 110 3 (.slice (some ⟨q, 0, none⟩) m cp) m (rowS (L ++ [S])) from by
    have := HC3.out.rS
    rw [HS3.out, hvq] at this
    have hlen : (L ++ [S]).length = m := by simp; omega
    rwa [hlen] at this)
  have HSZ := Lib.hid ((HC3.out.sized HS3.out hvq hm.symm (8 + n)))
  have HM := Lib.hid hm
  have HQL := Lib.hid (show lo ≤ q from (row_lo HC3.out.rS q HQ.out).1)
  have HFIN := Lib.hid (show ∀ w4 : World, Still w3 w4 → ∃ S', ContS lo B o ty S' (w4.setCell ⟨q, pp + 2, none⟩ (.int .i64 (((SZ : Nat) : Int) + (8 + (n : Int))))) ⟨c3.lg, addSz (8 + n) c3.segs⟩ ∧ Dk.Fr (CtF B ve vs3) w (w4.setCell ⟨q, pp + 2, none⟩ (.int .i64 (((SZ : Nat) : Int) + (8 + (n : Int))))) ∧ ∀ j ∈ S', j ∈ CtF B ve vs3 ∨ w.heap.size ≤ j from fun w4 hst => by
    rw [← hpp]
    have hc4 := HC3.out.of (w' := w4) (fun i _ => by rw [hst.1])
    have h4 := hc4.sized HS3.out hvq hm.symm (8 + n)
    have ez : ((S.size + (8 + n) : Nat) : Int) = ((SZ : Nat) : Int) + (8 + (n : Int)) := by rw [HSZ0.out]; omega
    rw [ez] at h4
    exact ⟨_, ⟨hloB, _, _, _, _, h4, rfl⟩, (HBL.out.same (fr_still hst)).setCell _ (HSUB.out q (by simp [CtF, HQ.out])) _, HSUB.out⟩)
  have s2 := Lib.hid (show ∀ w4 : World, Still w3 w4 → w4.cell? ⟨q, pp + 2, none⟩ = some (.int .i64 ((SZ : Nat) : Int)) from fun w4 hst => by
    rw [← hpp]
    have := seg_cell (row_of HRW.out (w' := w4) (fun i _ => by rw [hst.1])) hm.symm 2 _ rfl
    rw [HSZ0.out] at this
    exact this)
  have f2 := Lib.hid (show ∀ w4 : World, Still w3 w4 → w4.frozen? ⟨q, pp + 2, none⟩ = false from fun w4 hst => by rw [← hpp]; exact row_free (row_of HRW.out (w' := w4) (fun i _ => by rw [hst.1])) rfl _)
  clear hm hvq hpp
  go_wp2_with (go_at_call 94; refine HLS.out.mono ?_; rintro e w4 ⟨rfl, hst⟩; have y1 := s2.out w4 hst; have y2 := f2.out w4 hst; have HST := Lib.hid hst; clear hst)
  go_ret
  exact ⟨rfl, by rw [← HRES.out]; exact HFIN.out _ HST.out⟩
end Go.Proofs.YtnppomiggajhnaaGreatDoor.Wl

namespace Go.Proofs.YtnppomiggajhnaaGreatDoor.Wl
open Go.RowKit Go.Proofs.YtnppomiggajhnaaGreatDoor.Fld
set_option linter.unusedVariables false

set_option maxRecDepth 100000 in
set_option maxHeartbeats 6400000 in
theorem acc_cut_low {lo B o : Nat} {ty : TypeId} {FT : List Nat} {c : Ct} (num : Nat) (A : Option Addr) (n cap : Nat) (b : List Int) (w : World) (i : Nat) (h : ContS lo B o ty FT w c) (hlo : lo ≤ w.heap.size) (hr : Rd w A n b) (hA : A = none → cap = 0) (hn : n ≤ 65536) (hd : dec b = some (.cut i)) (hcl : i ≤ c.lg.base) (L : List Sg) (S : Sg) (hs : c.segs = L ++ [S]) (hLl : L.length ≤ 2000000) (hz : S.size ≤ 1099511627776) :
    Calls Tryz.prog 135 #[.pointer (some ⟨B, o, none⟩), .int .i64 (num : Int), .bool false, .slice A n cap] w (Accd lo B o ty FT w ⟨Lg.restart i, addSz (8 + n) c.segs⟩) := by
  have HD := Lib.hid (decode_any A n cap b w hr hA (by omega))
  have hok := dec_ok hr.2.2.1 hd
  clear hr hA
  have hloB := h.1
  unfold Accd
  go_enter Tryz.func135, Tryz.ntmps135
  go_wp2_with fail
  refine HD.out.mono ?_
  rintro e w1 ⟨v, A2, cap2, rfl, _, h0, hb⟩
  have hv := (h0 _ hd).1
  subst hv
  rw [hd]
  simp only [Option.isSome_some]
  have HB := Lib.hid (hb.trans ((alloc_below' w1 (.cells #[.int .i64 2, .int .i64 0, .int .i64 (i : Int), .int .i64 0, .int .i64 0, .int .i64 0, .slice none 0 0] 171)).mono hb.size))
  have HC := Lib.hid ((h.below hb).below (alloc_below' w1 (.cells #[.int .i64 2, .int .i64 0, .int .i64 (i : Int), .int .i64 0, .int .i64 0, .int .i64 0, .slice none 0 0] 171)))
  have HH := Lib.hid (Blk.new w1 #[.int .i64 2, .int .i64 0, .int .i64 (i : Int), .int .i64 0, .int .i64 0, .int .i64 0, .slice none 0 0] 171)
  clear h0 hb hd h
  unfold chV
  obtain ⟨k1, k2⟩ := hok
  unfold MI at k2
  obtain ⟨_, cs, ve, vs3, xs, hct, hFT⟩ := HC.out
  subst hFT
  have HCT := Lib.hid hct
  have HS := Lib.hid hs
  clear hct hs
  go_wp2_with fail
  obtain ⟨wa, hwa⟩ : ∃ wa, w1.alloc (.cells #[.int .i64 2, .int .i64 0, .int .i64 (i : Int), .int .i64 0, .int .i64 0, .int .i64 0, .slice none 0 0] 171) = wa := ⟨_, rfl⟩
  rw [hwa] at HB HCT HH ⊢
  have d2 := HH.out.cell 2 _ rfl
  have HRS := Lib.hid (show ∀ wq : World, wq.heap = wa.heap → wq.os = wa.os → wq.tape = wa.tape → wq.output = wa.output → Calls Tryz.prog 69 #[.pointer (some ⟨B, o, none⟩), .int .i64 (i : Int)] wq fun e w' => e = .returned (.tuple #[]) ∧ Blk w' B (rest2 cs o i) ty ∧ Dk.Fr [B] wa w' from fun wq q1 q2 q3 q4 => (cut_low B o cs ty c.lg.base i _ wq (by unfold Blk; rw [q1]; exact HCT.out.blk) HCT.out.c0 HCT.out.c1 k1 (by omega) hcl).mono fun _ _ ⟨he, hb, hf⟩ => ⟨he, hb, ⟨hf.os.trans q2, hf.tape.trans q3, hf.output.trans q4, by rw [← q1]; exact hf.size, fun k hk hn => by rw [hf.block k (by rw [q1]; exact hk) hn, q1]⟩⟩)
  go_region_with ((go_at_call 69; refine (HRS.out _ (by exact rfl) (by exact rfl) (by exact rfl) (by exact rfl)).mono ?_; rintro e w3 ⟨rfl, hb1, hf1⟩; have HBw := Lib.hid hb1; have HF1 := Lib.hid hf1; clear hb1 hf1))
  have HC3 := Lib.hid (HCT.out.empty (i := i) (segs' := c.segs) HBw.out (rest2_0 HCT.out.c0) (rest2_1 HCT.out.c1) (show (rest2 cs o i)[o + 2]? = some vs3 by rw [rest2_at _ _ _ _ (by omega)]; exact HCT.out.c2) (row_of HCT.out.rS (fun j hj => HF1.out.block j (row_lo HCT.out.rS j hj).2 (by have := row_ne HCT.out.rS HCT.out.blk HCT.out.t2; intro hm; simp at hm; subst hm; exact this hj))) ⟨Lg.Ok.restart (by unfold MI; omega), HCT.out.ok.2⟩)
  have HBL := Lib.hid (show Dk.Fr (CtF B ve vs3) w w3 from (Dk.Fr.below HB.out).trans HF1.out (fun j hj => .inl (ctf_B j hj)))
  have HSUB := Lib.hid (show ∀ j ∈ CtF B (.slice none 0 0) vs3, j ∈ CtF B ve vs3 ∨ w.heap.size ≤ j from ctf_sub (fun _ h => by simp [Value.ownBlock] at h) (fun _ h => .inl h))
  clear d2 hwa
  obtain ⟨c3, hc3⟩ : ∃ c3 : Ct, Ct.mk (Lg.restart i) c.segs = c3 := ⟨_, rfl⟩
  rw [hc3] at HC3
  obtain ⟨SZ, hSZ0⟩ : ∃ SZ : Nat, S.size = SZ := ⟨_, rfl⟩
  have hz0 : SZ ≤ 1099511627776 := by rw [← hSZ0]; exact hz
  have HS3 := Lib.hid (show c3.segs = L ++ [S] by rw [← hc3]; exact HS.out)
  have HSZ0 := Lib.hid hSZ0
  have HRES := Lib.hid (show (Ct.mk c3.lg (addSz (8 + n) c3.segs)) = ⟨Lg.restart i, addSz (8 + n) c.segs⟩ by rw [← hc3])
  clear hc3 hSZ0 hz
  obtain ⟨q, cp, hvq⟩ := HC3.out.seg_form HS3.out
  have HRS := Lib.hid HC3.out.rS
  obtain ⟨m, hm⟩ : ∃ m, L.length + 1 = m := ⟨_, rfl⟩
  rw [hm] at hvq
  obtain ⟨pp, hpp⟩ : ∃ pp, (m - 1) * 3 = pp := ⟨_, rfl⟩
  have HLS := Lib.hid (lastSeg_any B o q m cp _ ty w3 HC3.out.blk (by rw [HC3.out.c2, hvq]) (by omega) (by omega))
  rw [hpp] at HLS
  have HQ := Lib.hid (show vs3.ownBlock = some q by rw [hvq]; rfl)
  have HRW := Lib.hid (show w3.ownsRow lo 110 3 (.slice (some ⟨q, 0, none⟩) m cp) m (rowS (L ++ [S])) from by
    have := HC3.out.rS
    rw [HS3.out, hvq] at this
    have hlen : (L ++ [S]).length = m := by simp; omega
    rwa [hlen] at this)
  have HSZ := Lib.hid ((HC3.out.sized HS3.out hvq hm.symm (8 + n)))
  have HM := Lib.hid hm
  have HQL := Lib.hid (show lo ≤ q from (row_lo HC3.out.rS q HQ.out).1)
  have HFIN := Lib.hid (show ∀ w4 : World, Still w3 w4 → ∃ S', ContS lo B o ty S' (w4.setCell ⟨q, pp + 2, none⟩ (.int .i64 (((SZ : Nat) : Int) + (8 + (n : Int))))) ⟨c3.lg, addSz (8 + n) c3.segs⟩ ∧ Dk.Fr (CtF B ve vs3) w (w4.setCell ⟨q, pp + 2, none⟩ (.int .i64 (((SZ : Nat) : Int) + (8 + (n : Int))))) ∧ ∀ j ∈ S', j ∈ CtF B ve vs3 ∨ w.heap.size ≤ j from fun w4 hst => by
    rw [← hpp]
    have hc4 := HC3.out.of (w' := w4) (fun i _ => by rw [hst.1])
    have h4 := hc4.sized HS3.out hvq hm.symm (8 + n)
    have ez : ((S.size + (8 + n) : Nat) : Int) = ((SZ : Nat) : Int) + (8 + (n : Int)) := by rw [HSZ0.out]; omega
    rw [ez] at h4
    exact ⟨_, ⟨hloB, _, _, _, _, h4, rfl⟩, (HBL.out.same (fr_still hst)).setCell _ (HSUB.out q (by simp [CtF, HQ.out])) _, HSUB.out⟩)
  have s2 := Lib.hid (show ∀ w4 : World, Still w3 w4 → w4.cell? ⟨q, pp + 2, none⟩ = some (.int .i64 ((SZ : Nat) : Int)) from fun w4 hst => by
    rw [← hpp]
    have := seg_cell (row_of HRW.out (w' := w4) (fun i _ => by rw [hst.1])) hm.symm 2 _ rfl
    rw [HSZ0.out] at this
    exact this)
  have f2 := Lib.hid (show ∀ w4 : World, Still w3 w4 → w4.frozen? ⟨q, pp + 2, none⟩ = false from fun w4 hst => by rw [← hpp]; exact row_free (row_of HRW.out (w' := w4) (fun i _ => by rw [hst.1])) rfl _)
  clear hm hvq hpp
  go_wp2_with (go_at_call 94; refine HLS.out.mono ?_; rintro e w4 ⟨rfl, hst⟩; have y1 := s2.out w4 hst; have y2 := f2.out w4 hst; have HST := Lib.hid hst; clear hst)
  go_ret
  exact ⟨rfl, by rw [← HRES.out]; exact HFIN.out _ HST.out⟩
set_option maxRecDepth 100000 in
set_option maxHeartbeats 6400000 in
theorem acc_cut_high {lo B o : Nat} {ty : TypeId} {FT : List Nat} {c : Ct} (num : Nat) (A : Option Addr) (n cap : Nat) (b : List Int) (w : World) (i : Nat) (h : ContS lo B o ty FT w c) (hlo : lo ≤ w.heap.size) (hr : Rd w A n b) (hA : A = none → cap = 0) (hn : n ≤ 65536) (hd : dec b = some (.cut i)) (hcl : c.lg.last < i) (L : List Sg) (S : Sg) (hs : c.segs = L ++ [S]) (hLl : L.length ≤ 2000000) (hz : S.size ≤ 1099511627776) :
    Calls Tryz.prog 135 #[.pointer (some ⟨B, o, none⟩), .int .i64 (num : Int), .bool false, .slice A n cap] w (Accd lo B o ty FT w ⟨c.lg, addSz (8 + n) c.segs⟩) := by
  have HD := Lib.hid (decode_any A n cap b w hr hA (by omega))
  have hok := dec_ok hr.2.2.1 hd
  clear hr hA
  have hloB := h.1
  unfold Accd
  go_enter Tryz.func135, Tryz.ntmps135
  go_wp2_with fail
  refine HD.out.mono ?_
  rintro e w1 ⟨v, A2, cap2, rfl, _, h0, hb⟩
  have hv := (h0 _ hd).1
  subst hv
  rw [hd]
  simp only [Option.isSome_some]
  have HB := Lib.hid (hb.trans ((alloc_below' w1 (.cells #[.int .i64 2, .int .i64 0, .int .i64 (i : Int), .int .i64 0, .int .i64 0, .int .i64 0, .slice none 0 0] 171)).mono hb.size))
  have HC := Lib.hid ((h.below hb).below (alloc_below' w1 (.cells #[.int .i64 2, .int .i64 0, .int .i64 (i : Int), .int .i64 0, .int .i64 0, .int .i64 0, .slice none 0 0] 171)))
  have HH := Lib.hid (Blk.new w1 #[.int .i64 2, .int .i64 0, .int .i64 (i : Int), .int .i64 0, .int .i64 0, .int .i64 0, .slice none 0 0] 171)
  clear h0 hb hd h
  unfold chV
  obtain ⟨k1, k2⟩ := hok
  unfold MI at k2
  obtain ⟨_, cs, ve, vs3, xs, hct, hFT⟩ := HC.out
  subst hFT
  have HCT := Lib.hid hct
  have HS := Lib.hid hs
  clear hct hs
  go_wp2_with fail
  obtain ⟨wa, hwa⟩ : ∃ wa, w1.alloc (.cells #[.int .i64 2, .int .i64 0, .int .i64 (i : Int), .int .i64 0, .int .i64 0, .int .i64 0, .slice none 0 0] 171) = wa := ⟨_, rfl⟩
  rw [hwa] at HB HCT HH ⊢
  have d2 := HH.out.cell 2 _ rfl
  obtain ⟨VA, vcap, hve, _⟩ := row_slice HCT.out.rE
  have hlast : c.lg.last = c.lg.base + xs.length := by unfold Lg.last; rw [HCT.out.es]; simp
  have hbb : c.lg.base + xs.length ≤ 4611686018427387904 := by have := HCT.out.ok.1.1; unfold MI at this; omega
  have HRS := Lib.hid (show ∀ wq : World, wq.heap = wa.heap → wq.os = wa.os → wq.tape = wa.tape → wq.output = wa.output → Calls Tryz.prog 69 #[.pointer (some ⟨B, o, none⟩), .int .i64 (i : Int)] wq fun e w' => e = .returned (.tuple #[]) ∧ Still wa w' from fun wq q1 q2 q3 q4 => (cut_high B o cs ty c.lg.base i xs.length vcap VA wq (by unfold Blk; rw [q1]; exact HCT.out.blk) HCT.out.c0 (by rw [HCT.out.c1, hve]) hbb (by omega) (by omega)).mono fun _ _ ⟨he, hst⟩ => ⟨he, hst.1.trans q1, hst.2.1.trans q2, hst.2.2.1.trans q3, hst.2.2.2.trans q4⟩)
  clear hve hlast hbb hcl
  go_region_with ((go_at_call 69; refine (HRS.out _ (by exact rfl) (by exact rfl) (by exact rfl) (by exact rfl)).mono ?_; rintro e w3 ⟨rfl, hst1⟩; have HST1 := Lib.hid hst1; clear hst1))
  have HC3 := Lib.hid (HCT.out.of (w' := w3) (fun j _ => by rw [HST1.out.1]))
  have HBL := Lib.hid (show Dk.Fr (CtF B ve vs3) w w3 from (Dk.Fr.below HB.out).same (fr_still HST1.out))
  have HSUB := Lib.hid (show ∀ j ∈ CtF B ve vs3, j ∈ CtF B ve vs3 ∨ w.heap.size ≤ j from ctf_sub (fun _ h => .inl h) (fun _ h => .inl h))
  clear d2 hwa
  obtain ⟨c3, hc3⟩ : ∃ c3 : Ct, c = c3 := ⟨_, rfl⟩
  rw [hc3] at HC3
  obtain ⟨SZ, hSZ0⟩ : ∃ SZ : Nat, S.size = SZ := ⟨_, rfl⟩
  have hz0 : SZ ≤ 1099511627776 := by rw [← hSZ0]; exact hz
  have HS3 := Lib.hid (show c3.segs = L ++ [S] by rw [← hc3]; exact HS.out)
  have HSZ0 := Lib.hid hSZ0
  have HRES := Lib.hid (show (Ct.mk c3.lg (addSz (8 + n) c3.segs)) = ⟨c.lg, addSz (8 + n) c.segs⟩ by rw [← hc3])
  clear hc3 hSZ0 hz
  obtain ⟨q, cp, hvq⟩ := HC3.out.seg_form HS3.out
  have HRS := Lib.hid HC3.out.rS
  obtain ⟨m, hm⟩ : ∃ m, L.length + 1 = m := ⟨_, rfl⟩
  rw [hm] at hvq
  obtain ⟨pp, hpp⟩ : ∃ pp, (m - 1) * 3 = pp := ⟨_, rfl⟩
  have HLS := Lib.hid (lastSeg_any B o q m cp _ ty w3 HC3.out.blk (by rw [HC3.out.c2, hvq]) (by omega) (by omega))
  rw [hpp] at HLS
  have HQ := Lib.hid (show vs3.ownBlock = some q by rw [hvq]; rfl)
  have HRW := Lib.hid (show w3.ownsRow lo 110 3 (.slice (some ⟨q, 0, none⟩) m cp) m (rowS (L ++ [S])) from by
    have := HC3.out.rS
    rw [HS3.out, hvq] at this
    have hlen : (L ++ [S]).length = m := by simp; omega
    rwa [hlen] at this)
  have HSZ := Lib.hid ((HC3.out.sized HS3.out hvq hm.symm (8 + n)))
  have HM := Lib.hid hm
  have HQL := Lib.hid (show lo ≤ q from (row_lo HC3.out.rS q HQ.out).1)
  have HFIN := Lib.hid (show ∀ w4 : World, Still w3 w4 → ∃ S', ContS lo B o ty S' (w4.setCell ⟨q, pp + 2, none⟩ (.int .i64 (((SZ : Nat) : Int) + (8 + (n : Int))))) ⟨c3.lg, addSz (8 + n) c3.segs⟩ ∧ Dk.Fr (CtF B ve vs3) w (w4.setCell ⟨q, pp + 2, none⟩ (.int .i64 (((SZ : Nat) : Int) + (8 + (n : Int))))) ∧ ∀ j ∈ S', j ∈ CtF B ve vs3 ∨ w.heap.size ≤ j from fun w4 hst => by
    rw [← hpp]
    have hc4 := HC3.out.of (w' := w4) (fun i _ => by rw [hst.1])
    have h4 := hc4.sized HS3.out hvq hm.symm (8 + n)
    have ez : ((S.size + (8 + n) : Nat) : Int) = ((SZ : Nat) : Int) + (8 + (n : Int)) := by rw [HSZ0.out]; omega
    rw [ez] at h4
    exact ⟨_, ⟨hloB, _, _, _, _, h4, rfl⟩, (HBL.out.same (fr_still hst)).setCell _ (HSUB.out q (by simp [CtF, HQ.out])) _, HSUB.out⟩)
  have s2 := Lib.hid (show ∀ w4 : World, Still w3 w4 → w4.cell? ⟨q, pp + 2, none⟩ = some (.int .i64 ((SZ : Nat) : Int)) from fun w4 hst => by
    rw [← hpp]
    have := seg_cell (row_of HRW.out (w' := w4) (fun i _ => by rw [hst.1])) hm.symm 2 _ rfl
    rw [HSZ0.out] at this
    exact this)
  have f2 := Lib.hid (show ∀ w4 : World, Still w3 w4 → w4.frozen? ⟨q, pp + 2, none⟩ = false from fun w4 hst => by rw [← hpp]; exact row_free (row_of HRW.out (w' := w4) (fun i _ => by rw [hst.1])) rfl _)
  clear hm hvq hpp
  go_wp2_with (go_at_call 94; refine HLS.out.mono ?_; rintro e w4 ⟨rfl, hst⟩; have y1 := s2.out w4 hst; have y2 := f2.out w4 hst; have HST := Lib.hid hst; clear hst)
  go_ret
  exact ⟨rfl, by rw [← HRES.out]; exact HFIN.out _ HST.out⟩
end Go.Proofs.YtnppomiggajhnaaGreatDoor.Wl

namespace Go.Proofs.YtnppomiggajhnaaGreatDoor.Wl
open Go.RowKit Go.Proofs.YtnppomiggajhnaaGreatDoor.Fld
set_option linter.unusedVariables false

theorem rowE_take (xs : List EA) : ∀ k, rowE (xs.take k) = (rowE xs).take (k * 4) := by
  induction xs with
  | nil => intro k; simp [rowE]
  | cons x xs ih =>
    intro k
    cases k with
    | zero => simp [rowE]
    | succ k =>
      have e : ∀ ys, rowE (x :: ys) = x.cells ++ rowE ys := fun ys => by simp [rowE]
      rw [List.take_succ_cons, e, e, ih, List.take_append, show x.cells.length = 4 from rfl, List.take_of_length_le (show x.cells.length ≤ (k + 1) * 4 by show 4 ≤ _; omega)]
      congr 2
      omega
theorem Cont.cutm {lo B o : Nat} {cs : Array Value} {ty : TypeId} {w : World} {ve vs : Value} {xs : List EA} {c : Ct} (h : Cont lo B o cs ty w ve vs xs c) {w' : World} {g cap k : Nat} {lg' : Lg} (hve : ve = .slice (some ⟨g, 0, none⟩) xs.length cap) (hb : Blk w' B (cs.setIfInBounds (o + 1) (.slice (some ⟨g, 0, none⟩) k cap)) ty)
    (hr : w'.ownsRow lo 63 4 (.slice (some ⟨g, 0, none⟩) k cap) k ((rowE xs).take (k * 4))) (hf : Dk.Fr [B, g] w w') (hk : k ≤ xs.length) (hlg : lg' = ⟨c.lg.base, c.lg.es.take k⟩) (hok : lg'.Ok) : Cont lo B o (cs.setIfInBounds (o + 1) (.slice (some ⟨g, 0, none⟩) k cap)) ty w' (.slice (some ⟨g, 0, none⟩) k cap) vs (xs.take k) ⟨lg', c.segs⟩ := by
  have hg : ve.ownBlock = some g := by rw [hve]; rfl
  have hne : ∀ i, (∃ sz n ys et, et ≠ 63 ∧ et ≠ ty ∧ ∃ v, w.ownsRow lo et sz v n ys ∧ v.ownBlock = some i) → w'.heap[i]? = w.heap[i]? := by
    rintro i ⟨sz, n, ys, et, h1, h2, v, hrow, hv⟩
    refine hf.block i (row_lo hrow i hv).2 ?_
    intro hm
    simp at hm
    rcases hm with rfl | rfl
    · exact row_ne hrow h.blk h2 hv
    · exact rows_ne hrow h.rE h1 _ hv hg
  have hl : (xs.take k).length = k := by rw [List.length_take]; omega
  subst hlg
  refine ⟨hb, by rw [Array.getElem?_setIfInBounds_ne (by omega)]; exact h.c0, Array.getElem?_setIfInBounds_self_of_lt (lt_of_at' h.c1), by rw [Array.getElem?_setIfInBounds_ne (by omega)]; exact h.c2, by rw [h.es, List.map_take], ?_, row_of h.rS (fun i hi => hne i ⟨_, _, _, _, by decide, h.t2, _, h.rS, hi⟩), fun x hx => (h.dat x (List.mem_of_mem_take hx)).of (fun i hi => hne i ⟨_, _, _, _, by decide, h.t3, _, (h.dat x (List.mem_of_mem_take hx)).2, hi⟩), ⟨hok, h.ok.2⟩, h.t1, h.t2, h.t3⟩
  rw [hl, rowE_take]
  exact hr
set_option maxRecDepth 100000 in
set_option maxHeartbeats 6400000 in
theorem acc_cut_mid {lo B o : Nat} {ty : TypeId} {FT : List Nat} {c : Ct} (num : Nat) (A : Option Addr) (n cap : Nat) (b : List Int) (w : World) (i : Nat) (h : ContS lo B o ty FT w c) (hlo : lo ≤ w.heap.size) (hr : Rd w A n b) (hA : A = none → cap = 0) (hn : n ≤ 65536) (hd : dec b = some (.cut i)) (hcl : c.lg.base < i) (hcm : i ≤ c.lg.last) (L : List Sg) (S : Sg) (hs : c.segs = L ++ [S]) (hLl : L.length ≤ 2000000) (hz : S.size ≤ 1099511627776) :
    Calls Tryz.prog 135 #[.pointer (some ⟨B, o, none⟩), .int .i64 (num : Int), .bool false, .slice A n cap] w (Accd lo B o ty FT w ⟨c.lg.cut i, addSz (8 + n) c.segs⟩) := by
  have HD := Lib.hid (decode_any A n cap b w hr hA (by omega))
  have hok := dec_ok hr.2.2.1 hd
  clear hr hA
  have hloB := h.1
  unfold Accd
  go_enter Tryz.func135, Tryz.ntmps135
  go_wp2_with fail
  refine HD.out.mono ?_
  rintro e w1 ⟨v, A2, cap2, rfl, _, h0, hb⟩
  have hv := (h0 _ hd).1
  subst hv
  rw [hd]
  simp only [Option.isSome_some]
  have HB := Lib.hid (hb.trans ((alloc_below' w1 (.cells #[.int .i64 2, .int .i64 0, .int .i64 (i : Int), .int .i64 0, .int .i64 0, .int .i64 0, .slice none 0 0] 171)).mono hb.size))
  have HC := Lib.hid ((h.below hb).below (alloc_below' w1 (.cells #[.int .i64 2, .int .i64 0, .int .i64 (i : Int), .int .i64 0, .int .i64 0, .int .i64 0, .slice none 0 0] 171)))
  have HH := Lib.hid (Blk.new w1 #[.int .i64 2, .int .i64 0, .int .i64 (i : Int), .int .i64 0, .int .i64 0, .int .i64 0, .slice none 0 0] 171)
  clear h0 hb hd h
  unfold chV
  obtain ⟨k1, k2⟩ := hok
  unfold MI at k2
  obtain ⟨_, cs, ve, vs3, xs, hct, hFT⟩ := HC.out
  subst hFT
  have HCT := Lib.hid hct
  have HS := Lib.hid hs
  clear hct hs
  go_wp2_with fail
  obtain ⟨wa, hwa⟩ : ∃ wa, w1.alloc (.cells #[.int .i64 2, .int .i64 0, .int .i64 (i : Int), .int .i64 0, .int .i64 0, .int .i64 0, .slice none 0 0] 171) = wa := ⟨_, rfl⟩
  rw [hwa] at HB HCT HH ⊢
  have d2 := HH.out.cell 2 _ rfl
  have hlast : c.lg.last = c.lg.base + xs.length := by unfold Lg.last; rw [HCT.out.es]; simp
  have hbb : c.lg.base + xs.length ≤ 4611686018427387904 := by have := HCT.out.ok.1.1; unfold MI at this; omega
  obtain ⟨g, vcap, hve⟩ : ∃ g vcap, ve = .slice (some ⟨g, 0, none⟩) xs.length vcap := by
    rcases HCT.out.rE.2 with ⟨_, h0⟩ | ⟨g, cp, cur, hv, _⟩
    · omega
    · exact ⟨g, cp, hv⟩
  obtain ⟨k, hk⟩ : ∃ k, i - 1 - c.lg.base = k := ⟨_, rfl⟩
  have HRS := Lib.hid (show ∀ wq : World, wq.heap = wa.heap → wq.os = wa.os → wq.tape = wa.tape → wq.output = wa.output → Calls Tryz.prog 69 #[.pointer (some ⟨B, o, none⟩), .int .i64 (i : Int)] wq fun e w' => e = .returned (.tuple #[]) ∧ Blk w' B (cs.setIfInBounds (o + 1) (.slice (some ⟨g, 0, none⟩) k vcap)) ty ∧ w'.ownsRow lo 63 4 (.slice (some ⟨g, 0, none⟩) k vcap) k ((rowE xs).take (k * 4)) ∧ Dk.Fr [B, g] wa w' from fun wq q1 q2 q3 q4 => by
    have hrow := row_of HCT.out.rE (w' := wq) (fun j _ => by rw [q1])
    rw [hve] at hrow
    have := cut_mid B o cs ty c.lg.base i xs.length vcap g lo (rowE xs) wq (by unfold Blk; rw [q1]; exact HCT.out.blk) HCT.out.c0 (by rw [HCT.out.c1, hve]) HCT.out.t1 hrow hbb hcl (by omega)
    rw [hk] at this
    exact this.mono fun _ _ ⟨he, hb, hr, hf⟩ => ⟨he, hb, hr, ⟨hf.os.trans q2, hf.tape.trans q3, hf.output.trans q4, by rw [← q1]; exact hf.size, fun k hk hn => by rw [hf.block k (by rw [q1]; exact hk) hn, q1]⟩⟩)
  have HVE := Lib.hid hve
  have HKX := Lib.hid (show k ≤ xs.length by omega)
  have HCUT := Lib.hid (show c.lg.cut i = ⟨c.lg.base, c.lg.es.take k⟩ by unfold Lg.cut; rw [if_neg (by omega), hk])
  have HCOK := Lib.hid (show (c.lg.cut i).Ok from HCT.out.ok.1.cut (by unfold MI; omega))
  clear hlast hbb hve hk
  go_region_with ((go_at_call 69; refine (HRS.out _ (by exact rfl) (by exact rfl) (by exact rfl) (by exact rfl)).mono ?_; rintro e w3 ⟨rfl, hb1, hr1, hf1⟩; have HBw := Lib.hid hb1; have HR1 := Lib.hid hr1; have HF1 := Lib.hid hf1; clear hb1 hr1 hf1))
  have HC3 := Lib.hid (HCT.out.cutm HVE.out HBw.out HR1.out HF1.out HKX.out HCUT.out HCOK.out)
  have HBL := Lib.hid (show Dk.Fr (CtF B ve vs3) w w3 from (Dk.Fr.below HB.out).trans HF1.out (fun j hj => .inl (ctf_e j (by rw [HVE.out]; simpa [Value.ownBlock] using hj))))
  have HSUB := Lib.hid (show ∀ j ∈ CtF B (.slice (some ⟨g, 0, none⟩) k vcap) vs3, j ∈ CtF B ve vs3 ∨ w.heap.size ≤ j from ctf_sub (fun j h => .inl (by rw [HVE.out]; exact h)) (fun _ h => .inl h))
  clear d2 hwa
  obtain ⟨c3, hc3⟩ : ∃ c3 : Ct, Ct.mk (c.lg.cut i) c.segs = c3 := ⟨_, rfl⟩
  rw [hc3] at HC3
  obtain ⟨SZ, hSZ0⟩ : ∃ SZ : Nat, S.size = SZ := ⟨_, rfl⟩
  have hz0 : SZ ≤ 1099511627776 := by rw [← hSZ0]; exact hz
  have HS3 := Lib.hid (show c3.segs = L ++ [S] by rw [← hc3]; exact HS.out)
  have HSZ0 := Lib.hid hSZ0
  have HRES := Lib.hid (show (Ct.mk c3.lg (addSz (8 + n) c3.segs)) = ⟨c.lg.cut i, addSz (8 + n) c.segs⟩ by rw [← hc3])
  clear hc3 hSZ0 hz
  obtain ⟨q, cp, hvq⟩ := HC3.out.seg_form HS3.out
  have HRS := Lib.hid HC3.out.rS
  obtain ⟨m, hm⟩ : ∃ m, L.length + 1 = m := ⟨_, rfl⟩
  rw [hm] at hvq
  obtain ⟨pp, hpp⟩ : ∃ pp, (m - 1) * 3 = pp := ⟨_, rfl⟩
  have HLS := Lib.hid (lastSeg_any B o q m cp _ ty w3 HC3.out.blk (by rw [HC3.out.c2, hvq]) (by omega) (by omega))
  rw [hpp] at HLS
  have HQ := Lib.hid (show vs3.ownBlock = some q by rw [hvq]; rfl)
  have HRW := Lib.hid (show w3.ownsRow lo 110 3 (.slice (some ⟨q, 0, none⟩) m cp) m (rowS (L ++ [S])) from by
    have := HC3.out.rS
    rw [HS3.out, hvq] at this
    have hlen : (L ++ [S]).length = m := by simp; omega
    rwa [hlen] at this)
  have HSZ := Lib.hid ((HC3.out.sized HS3.out hvq hm.symm (8 + n)))
  have HM := Lib.hid hm
  have HQL := Lib.hid (show lo ≤ q from (row_lo HC3.out.rS q HQ.out).1)
  have HFIN := Lib.hid (show ∀ w4 : World, Still w3 w4 → ∃ S', ContS lo B o ty S' (w4.setCell ⟨q, pp + 2, none⟩ (.int .i64 (((SZ : Nat) : Int) + (8 + (n : Int))))) ⟨c3.lg, addSz (8 + n) c3.segs⟩ ∧ Dk.Fr (CtF B ve vs3) w (w4.setCell ⟨q, pp + 2, none⟩ (.int .i64 (((SZ : Nat) : Int) + (8 + (n : Int))))) ∧ ∀ j ∈ S', j ∈ CtF B ve vs3 ∨ w.heap.size ≤ j from fun w4 hst => by
    rw [← hpp]
    have hc4 := HC3.out.of (w' := w4) (fun i _ => by rw [hst.1])
    have h4 := hc4.sized HS3.out hvq hm.symm (8 + n)
    have ez : ((S.size + (8 + n) : Nat) : Int) = ((SZ : Nat) : Int) + (8 + (n : Int)) := by rw [HSZ0.out]; omega
    rw [ez] at h4
    exact ⟨_, ⟨hloB, _, _, _, _, h4, rfl⟩, (HBL.out.same (fr_still hst)).setCell _ (HSUB.out q (by simp [CtF, HQ.out])) _, HSUB.out⟩)
  have s2 := Lib.hid (show ∀ w4 : World, Still w3 w4 → w4.cell? ⟨q, pp + 2, none⟩ = some (.int .i64 ((SZ : Nat) : Int)) from fun w4 hst => by
    rw [← hpp]
    have := seg_cell (row_of HRW.out (w' := w4) (fun i _ => by rw [hst.1])) hm.symm 2 _ rfl
    rw [HSZ0.out] at this
    exact this)
  have f2 := Lib.hid (show ∀ w4 : World, Still w3 w4 → w4.frozen? ⟨q, pp + 2, none⟩ = false from fun w4 hst => by rw [← hpp]; exact row_free (row_of HRW.out (w' := w4) (fun i _ => by rw [hst.1])) rfl _)
  clear hm hvq hpp
  go_wp2_with (go_at_call 94; refine HLS.out.mono ?_; rintro e w4 ⟨rfl, hst⟩; have y1 := s2.out w4 hst; have y2 := f2.out w4 hst; have HST := Lib.hid hst; clear hst)
  go_ret
  exact ⟨rfl, by rw [← HRES.out]; exact HFIN.out _ HST.out⟩
end Go.Proofs.YtnppomiggajhnaaGreatDoor.Wl

namespace Go.Proofs.YtnppomiggajhnaaGreatDoor.Wl
open Go.RowKit Go.Proofs.YtnppomiggajhnaaGreatDoor.Fld
set_option linter.unusedVariables false

set_option maxRecDepth 100000 in
set_option maxHeartbeats 6400000 in
theorem acc_entry_no {lo B o : Nat} {ty : TypeId} {c : Ct} (num : Nat) (A : Option Addr) (n cap : Nat) (b : List Int) (w : World) (e : E) (h : ContX lo B o ty w c) (hlo : lo ≤ w.heap.size) (hr : Rd w A n b) (hA : A = none → cap = 0) (hn : n ≤ 65536) (hd : dec b = some (.entry e)) (hie : e.idx ≠ c.lg.last + 1) :
    Calls Tryz.prog 135 #[.pointer (some ⟨B, o, none⟩), .int .i64 (num : Int), .bool false, .slice A n cap] w fun e w' => e = .returned (.bool false) ∧ Below w.heap.size w w' := by
  have HD := Lib.hid (decode_any A n cap b w hr hA (by omega))
  have hok := dec_ok hr.2.2.1 hd
  clear hr hA
  have hloB := h.1
  obtain ⟨ei, et, ek, d⟩ := e
  obtain ⟨k1, k2, k3, k4, k5, k6⟩ := hok
  simp only at k1 k2 k3 k4 k5 k6 hie
  unfold MI at k2 k3
  go_enter Tryz.func135, Tryz.ntmps135
  go_wp2_with fail
  refine HD.out.mono ?_
  rintro e w1 ⟨v, A2, cap2, rfl, _, h0, hb⟩
  obtain ⟨hv, hrd, hA2⟩ := h0 _ hd
  subst hv
  rw [hd]
  simp only [Option.isSome_some]
  unfold chV
  simp only [dataOf] at hrd
  obtain ⟨dl, hdl⟩ : ∃ dl, d.length = dl := ⟨_, rfl⟩
  have HDL := Lib.hid hdl
  simp only
  rw [hdl] at hrd ⊢
  have HB := Lib.hid (hb.trans ((alloc_below' w1 (.cells #[.int .i64 1, .int .i64 0, .int .i64 0, .int .i64 (ei : Int), .int .i64 (et : Int), .int .i64 (ek : Int), .slice A2 dl cap2] 171)).mono hb.size))
  have HC := Lib.hid ((h.below hb).below (alloc_below' w1 (.cells #[.int .i64 1, .int .i64 0, .int .i64 0, .int .i64 (ei : Int), .int .i64 (et : Int), .int .i64 (ek : Int), .slice A2 dl cap2] 171)))
  have HH := Lib.hid (Blk.new w1 #[.int .i64 1, .int .i64 0, .int .i64 0, .int .i64 (ei : Int), .int .i64 (et : Int), .int .i64 (ek : Int), .slice A2 dl cap2] 171)
  have HRD := Lib.hid (hrd.below (alloc_below' w1 (.cells #[.int .i64 1, .int .i64 0, .int .i64 0, .int .i64 (ei : Int), .int .i64 (et : Int), .int .i64 (ek : Int), .slice A2 dl cap2] 171)))
  have HA2 := Lib.hid hA2
  clear h0 hb hd h hrd hA2 hdl
  obtain ⟨_, cs, ve, vs3, xs, hct⟩ := HC.out
  have HCT := Lib.hid hct
  clear hct
  go_wp2_with fail
  obtain ⟨wa, hwa⟩ : ∃ wa, w1.alloc (.cells #[.int .i64 1, .int .i64 0, .int .i64 0, .int .i64 (ei : Int), .int .i64 (et : Int), .int .i64 (ek : Int), .slice A2 dl cap2] 171) = wa := ⟨_, rfl⟩
  rw [hwa] at HB HCT HH HRD ⊢
  have d3 := HH.out.cell 3 _ rfl
  have d4 := HH.out.cell 4 _ rfl
  have d5 := HH.out.cell 5 _ rfl
  have d6 := HH.out.cell 6 _ rfl
  obtain ⟨VA, vcap, hve, _⟩ := row_slice HCT.out.rE
  have hlast : c.lg.last = c.lg.base + xs.length := by unfold Lg.last; rw [HCT.out.es]; simp
  have hbb : c.lg.base + xs.length ≤ 4611686018427387904 := by have := HCT.out.ok.1.1; unfold MI at this; omega
  have HL := Lib.hid (show ∀ k, Calls Tryz.prog 64 #[.pointer (some ⟨B, o, none⟩)] (wa.drewN k) fun e w'' => e = .returned (.int .i64 ((c.lg.last : Nat) : Int)) ∧ ∃ m, w'' = wa.drewN m from fun k => by
    rw [hlast]
    exact (last_dr B o cs ty c.lg.base xs.length vcap VA _ (HCT.out.blk.drewN k) HCT.out.c0 (by rw [HCT.out.c1, hve]) hbb).mono fun _ _ ⟨he, m, hw⟩ => ⟨he, k + m, by rw [hw, World.drewN_drewN]⟩)
  have hLM : c.lg.last ≤ 4611686018427387904 := by rw [hlast]; exact hbb
  clear hve hlast hbb hwa
  obtain ⟨LL, hLL⟩ : ∃ LL, c.lg.last = LL := ⟨_, rfl⟩
  rw [hLL] at HL hLM hie
  have HLL := Lib.hid hLL
  clear hLL
  have e2 : IntKind.i64.wrap ((LL : Int) + 1) = (LL : Int) + 1 := wrap_in' _ (by omega) (by omega)
  have j1 : ((ei : Int) == (LL : Int) + 1) = false := by rw [beq_eq_false_iff_ne]; omega
  clear hie
  go_quiet ((go_at_call 64; exact HL.out _))
  go_wp2
  go_ret
  exact ⟨rfl, HB.out.trans ((below_drewN' _ _).mono HB.out.size)⟩
end Go.Proofs.YtnppomiggajhnaaGreatDoor.Wl

namespace Go.Proofs.YtnppomiggajhnaaGreatDoor.Wl
open Go.RowKit Go.Proofs.YtnppomiggajhnaaGreatDoor.Fld
set_option linter.unusedVariables false

theorem Cont.added {lo B o : Nat} {cs : Array Value} {ty : TypeId} {w : World} {ve vs : Value} {xs : List EA} {c : Ct} (h : Cont lo B o cs ty w ve vs xs c) {w' : World} {v' : Value} {y : EA} {lo' : Nat} (hlo : lo ≤ lo') (hb : Blk w' B (cs.setIfInBounds (o + 1) v') ty)
    (hr : w'.ownsRow lo 63 4 v' (xs.length + 1) (rowE (xs ++ [y]))) (hd : DatAt lo' w' y) (hf : Dk.Fr (B :: ve.ownBlock.toList) w w') (hok : (c.lg.add y.e).Ok) : Cont lo B o (cs.setIfInBounds (o + 1) v') ty w' v' vs (xs ++ [y]) ⟨c.lg.add y.e, c.segs⟩ := by
  have hne : ∀ i, (∃ sz n ys et, et ≠ 63 ∧ et ≠ ty ∧ ∃ v, w.ownsRow lo et sz v n ys ∧ v.ownBlock = some i) → w'.heap[i]? = w.heap[i]? := by
    rintro i ⟨sz, n, ys, et, h1, h2, v, hrow, hv⟩
    refine hf.block i (row_lo hrow i hv).2 ?_
    intro hm
    rcases List.mem_cons.1 hm with rfl | hm
    · exact row_ne hrow h.blk h2 hv
    · rw [Option.mem_toList] at hm
      exact rows_ne hrow h.rE h1 i hv hm
  have hl : (xs ++ [y]).length = xs.length + 1 := by simp
  refine ⟨hb, by rw [Array.getElem?_setIfInBounds_ne (by omega)]; exact h.c0, Array.getElem?_setIfInBounds_self_of_lt (lt_of_at' h.c1), by rw [Array.getElem?_setIfInBounds_ne (by omega)]; exact h.c2, by show c.lg.es ++ [y.e] = _; rw [h.es]; simp, by rw [hl]; exact hr, row_of h.rS (fun i hi => hne i ⟨_, _, _, _, by decide, h.t2, _, h.rS, hi⟩), fun x hx => ?_, ⟨hok, h.ok.2⟩, h.t1, h.t2, h.t3⟩
  rcases List.mem_append.1 hx with hx | hx
  · exact (h.dat x hx).of (fun i hi => hne i ⟨_, _, _, _, by decide, h.t3, _, (h.dat x hx).2, hi⟩)
  · simp at hx
    subst hx
    exact ⟨hd.1, row_lower hd.2 hlo⟩
set_option maxRecDepth 100000 in
set_option maxHeartbeats 6400000 in
theorem acc_entry {lo B o : Nat} {ty : TypeId} {FT : List Nat} {c : Ct} (num : Nat) (A : Option Addr) (n cap : Nat) (b : List Int) (w : World) (e : E) (h : ContS lo B o ty FT w c) (hlo : lo ≤ w.heap.size) (hr : Rd w A n b) (hA : A = none → cap = 0) (hn : n ≤ 65536) (hd : dec b = some (.entry e)) (hie : e.idx = c.lg.last + 1) (L : List Sg) (S : Sg) (hs : c.segs = L ++ [S]) (hLl : L.length ≤ 2000000) (hz : S.size ≤ 1099511627776) (hx : c.lg.es.length ≤ 2000000) :
    Calls Tryz.prog 135 #[.pointer (some ⟨B, o, none⟩), .int .i64 (num : Int), .bool false, .slice A n cap] w (Accd lo B o ty FT w ⟨c.lg.add e, addSz (8 + n) c.segs⟩) := by
  have HS := Lib.hid hs
  have HEOK := Lib.hid (dec_ok hr.2.2.1 hd)
  have HIE := Lib.hid hie
  clear hs
  have HD := Lib.hid (decode_any A n cap b w hr hA (by omega))
  have hok := dec_ok hr.2.2.1 hd
  clear hr hA
  have hloB := h.1
  obtain ⟨ei, et, ek, d⟩ := e
  obtain ⟨k1, k2, k3, k4, k5, k6⟩ := hok
  simp only at k1 k2 k3 k4 k5 k6 hie
  unfold MI at k2 k3
  unfold Accd
  have HI2 := Lib.hid hie
  clear hie
  go_enter Tryz.func135, Tryz.ntmps135
  go_wp2_with fail
  refine HD.out.mono ?_
  rintro e w1 ⟨v, A2, cap2, rfl, _, h0, hb⟩
  obtain ⟨hv, hrd, hA2⟩ := h0 _ hd
  subst hv
  rw [hd]
  simp only [Option.isSome_some]
  unfold chV
  simp only [dataOf] at hrd
  obtain ⟨dl, hdl⟩ : ∃ dl, d.length = dl := ⟨_, rfl⟩
  have HDL := Lib.hid hdl
  simp only
  rw [hdl] at hrd ⊢
  have HB := Lib.hid (hb.trans ((alloc_below' w1 (.cells #[.int .i64 1, .int .i64 0, .int .i64 0, .int .i64 (ei : Int), .int .i64 (et : Int), .int .i64 (ek : Int), .slice A2 dl cap2] 171)).mono hb.size))
  have HC := Lib.hid ((h.below hb).below (alloc_below' w1 (.cells #[.int .i64 1, .int .i64 0, .int .i64 0, .int .i64 (ei : Int), .int .i64 (et : Int), .int .i64 (ek : Int), .slice A2 dl cap2] 171)))
  have HH := Lib.hid (Blk.new w1 #[.int .i64 1, .int .i64 0, .int .i64 0, .int .i64 (ei : Int), .int .i64 (et : Int), .int .i64 (ek : Int), .slice A2 dl cap2] 171)
  have HRD := Lib.hid (hrd.below (alloc_below' w1 (.cells #[.int .i64 1, .int .i64 0, .int .i64 0, .int .i64 (ei : Int), .int .i64 (et : Int), .int .i64 (ek : Int), .slice A2 dl cap2] 171)))
  have HA2 := Lib.hid hA2
  clear h0 hb hd h hrd hA2 hdl
  obtain ⟨_, cs, ve, vs3, xs, hct, hFT⟩ := HC.out
  subst hFT
  have HCT := Lib.hid hct
  clear hct
  go_wp2_with fail
  obtain ⟨wa, hwa⟩ : ∃ wa, w1.alloc (.cells #[.int .i64 1, .int .i64 0, .int .i64 0, .int .i64 (ei : Int), .int .i64 (et : Int), .int .i64 (ek : Int), .slice A2 dl cap2] 171) = wa := ⟨_, rfl⟩
  rw [hwa] at HB HCT HH HRD ⊢
  have d3 := HH.out.cell 3 _ rfl
  have d4 := HH.out.cell 4 _ rfl
  have d5 := HH.out.cell 5 _ rfl
  have d6 := HH.out.cell 6 _ rfl
  obtain ⟨VA, vcap, hve, _⟩ := row_slice HCT.out.rE
  have hlast : c.lg.last = c.lg.base + xs.length := by unfold Lg.last; rw [HCT.out.es]; simp
  have hbb : c.lg.base + xs.length ≤ 4611686018427387904 := by have := HCT.out.ok.1.1; unfold MI at this; omega
  have HL := Lib.hid (show ∀ k, Calls Tryz.prog 64 #[.pointer (some ⟨B, o, none⟩)] (wa.drewN k) fun e w'' => e = .returned (.int .i64 ((c.lg.last : Nat) : Int)) ∧ ∃ m, w'' = wa.drewN m from fun k => by
    rw [hlast]
    exact (last_dr B o cs ty c.lg.base xs.length vcap VA _ (HCT.out.blk.drewN k) HCT.out.c0 (by rw [HCT.out.c1, hve]) hbb).mono fun _ _ ⟨he, m, hw⟩ => ⟨he, k + m, by rw [hw, World.drewN_drewN]⟩)
  have hLM : c.lg.last ≤ 4611686018427387904 := by rw [hlast]; exact hbb
  clear hve hlast hbb hwa
  have hie := HI2.out
  obtain ⟨LL, hLL⟩ : ∃ LL, c.lg.last = LL := ⟨_, rfl⟩
  rw [hLL] at HL hLM hie
  have HLL := Lib.hid hLL
  clear hLL
  have e2 : IntKind.i64.wrap ((LL : Int) + 1) = (LL : Int) + 1 := wrap_in' _ (by omega) (by omega)
  have j1 : ((ei : Int) == (LL : Int) + 1) = true := by rw [beq_iff_eq]; omega
  clear hie
  have hxl : xs.length ≤ 2000000 := by
    have : c.lg.es.length = xs.length := by rw [HCT.out.es]; simp
    omega
  have HADD := Lib.hid (show ∀ wq : World, wq.heap = wa.heap → wq.os = wa.os → wq.tape = wa.tape → wq.output = wa.output → Calls Tryz.prog 119 #[.pointer (some ⟨B, o, none⟩), .agg #[.int .i64 (ei : Int), .int .i64 (et : Int), .int .i64 (ek : Int), .slice A2 dl cap2]] wq fun e w' => e = .returned (.tuple #[]) ∧ ∃ v' y, y.e = ⟨ei, et, ek, d⟩ ∧ Blk w' B (cs.setIfInBounds (o + 1) v') ty ∧ w'.ownsRow lo 63 4 v' (xs.length + 1) (rowE (xs ++ [y])) ∧ DatAt wa.heap.size w' y ∧ Dk.Fr (B :: ve.ownBlock.toList) wa w' ∧ (v'.ownBlock = ve.ownBlock ∨ ∃ j, v'.ownBlock = some j ∧ wa.heap.size ≤ j) from fun wq q1 q2 q3 q4 => by
    have hrq : Rd wq A2 d.length d := by
      rw [HDL.out]
      exact HRD.out.of_same fun a _ _ => World.cell?_of_block (w := wa) (by rw [q1])
    have := add_any B o cs ty lo ve xs ⟨⟨ei, et, ek, d⟩, A2, cap2⟩ wq (by unfold Blk; rw [q1]; exact HCT.out.blk) HCT.out.c1 HCT.out.t1 HCT.out.t3 (row_of HCT.out.rE (w' := wq) (fun j _ => by rw [q1])) (by rw [q1]; have := HB.out.size; omega) hrq HA2.out k5 hxl
    unfold entV at this
    simp only at this
    rw [HDL.out] at this
    exact this.mono fun _ _ ⟨he, v', y, y1, y2, y3, y4, y5, y6⟩ => ⟨he, v', y, y1, y2, y3, by rw [← q1]; exact y4, ⟨y5.os.trans q2, y5.tape.trans q3, y5.output.trans q4, by rw [← q1]; exact y5.size, fun k hk hn => by rw [y5.block k (by rw [q1]; exact hk) hn, q1]⟩, by rw [← q1]; exact y6⟩)
  clear hxl
  go_quiet ((go_at_call 64; exact HL.out _))
  go_wp2_with fail
  go_region_with ((go_at_call 119; refine (HADD.out _ (by exact rfl) (by exact rfl) (by exact rfl) (by exact rfl)).mono ?_; rintro e w3 ⟨rfl, v', y, y1, y2, y3, y4, y5, y6⟩; have Y6 := Lib.hid y6; have Y1 := Lib.hid y1; have Y2 := Lib.hid y2; have Y3 := Lib.hid y3; have Y4 := Lib.hid y4; have Y5 := Lib.hid y5; clear y1 y2 y3 y4 y5 y6))
  all_goals
    have HC3 := Lib.hid (HCT.out.added (by have := HB.out.size; omega) Y2.out Y3.out Y4.out Y5.out (by rw [Y1.out]; exact HCT.out.ok.1.add HEOK.out HIE.out))
    have HBL := Lib.hid (show Dk.Fr (CtF B ve vs3) w w3 from (Dk.Fr.below HB.out).trans Y5.out (fun j hj => .inl (ctf_e j hj)))
    have HSUB := Lib.hid (show ∀ j ∈ CtF B v' vs3, j ∈ CtF B ve vs3 ∨ w.heap.size ≤ j from ctf_sub (own_new Y6.out HB.out.size) (fun _ h => .inl h))
    clear d3 d4 d5 d6 j1 e2
    obtain ⟨c3, hc3⟩ : ∃ c3 : Ct, Ct.mk (c.lg.add y.e) c.segs = c3 := ⟨_, rfl⟩
    rw [hc3] at HC3
    obtain ⟨SZ, hSZ0⟩ : ∃ SZ : Nat, S.size = SZ := ⟨_, rfl⟩
    have hz0 : SZ ≤ 1099511627776 := by rw [← hSZ0]; exact hz
    have HS3 := Lib.hid (show c3.segs = L ++ [S] by rw [← hc3]; exact HS.out)
    have HSZ0 := Lib.hid hSZ0
    have HRES := Lib.hid (show (Ct.mk c3.lg (addSz (8 + n) c3.segs)) = ⟨c.lg.add ⟨ei, et, ek, d⟩, addSz (8 + n) c.segs⟩ by rw [← hc3, Y1.out])
    clear hc3 hSZ0
    obtain ⟨q, cp, hvq⟩ := HC3.out.seg_form HS3.out
    have HRS := Lib.hid HC3.out.rS
    obtain ⟨m, hm⟩ : ∃ m, L.length + 1 = m := ⟨_, rfl⟩
    rw [hm] at hvq
    obtain ⟨pp, hpp⟩ : ∃ pp, (m - 1) * 3 = pp := ⟨_, rfl⟩
    have HLS := Lib.hid (lastSeg_any B o q m cp _ ty w3 HC3.out.blk (by rw [HC3.out.c2, hvq]) (by omega) (by omega))
    rw [hpp] at HLS
    have HQ := Lib.hid (show vs3.ownBlock = some q by rw [hvq]; rfl)
    have HRW := Lib.hid (show w3.ownsRow lo 110 3 (.slice (some ⟨q, 0, none⟩) m cp) m (rowS (L ++ [S])) from by
      have := HC3.out.rS
      rw [HS3.out, hvq] at this
      have hlen : (L ++ [S]).length = m := by simp; omega
      rwa [hlen] at this)
    have HSZ := Lib.hid ((HC3.out.sized HS3.out hvq hm.symm (8 + n)))
    have HM := Lib.hid hm
    have HQL := Lib.hid (show lo ≤ q from (row_lo HC3.out.rS q HQ.out).1)
    have HFIN := Lib.hid (show ∀ w4 : World, Still w3 w4 → ∃ S', ContS lo B o ty S' (w4.setCell ⟨q, pp + 2, none⟩ (.int .i64 (((SZ : Nat) : Int) + (8 + (n : Int))))) ⟨c3.lg, addSz (8 + n) c3.segs⟩ ∧ Dk.Fr (CtF B ve vs3) w (w4.setCell ⟨q, pp + 2, none⟩ (.int .i64 (((SZ : Nat) : Int) + (8 + (n : Int))))) ∧ ∀ j ∈ S', j ∈ CtF B ve vs3 ∨ w.heap.size ≤ j from fun w4 hst => by
      rw [← hpp]
      have hc4 := HC3.out.of (w' := w4) (fun i _ => by rw [hst.1])
      have h4 := hc4.sized HS3.out hvq hm.symm (8 + n)
      have ez : ((S.size + (8 + n) : Nat) : Int) = ((SZ : Nat) : Int) + (8 + (n : Int)) := by rw [HSZ0.out]; omega
      rw [ez] at h4
      exact ⟨_, ⟨hloB, _, _, _, _, h4, rfl⟩, (HBL.out.same (fr_still hst)).setCell _ (HSUB.out q (by simp [CtF, HQ.out])) _, HSUB.out⟩)
    have s2 := Lib.hid (show ∀ w4 : World, Still w3 w4 → w4.cell? ⟨q, pp + 2, none⟩ = some (.int .i64 ((SZ : Nat) : Int)) from fun w4 hst => by
      rw [← hpp]
      have := seg_cell (row_of HRW.out (w' := w4) (fun i _ => by rw [hst.1])) hm.symm 2 _ rfl
      rw [HSZ0.out] at this
      exact this)
    have f2 := Lib.hid (show ∀ w4 : World, Still w3 w4 → w4.frozen? ⟨q, pp + 2, none⟩ = false from fun w4 hst => by rw [← hpp]; exact row_free (row_of HRW.out (w' := w4) (fun i _ => by rw [hst.1])) rfl _)
    clear hm hvq hpp
    go_wp2_with (go_at_call 94; refine HLS.out.mono ?_; rintro e w4 ⟨rfl, hst⟩; have y1 := s2.out w4 hst; have y2 := f2.out w4 hst; have HST := Lib.hid hst; clear hst)
    go_ret
    exact ⟨rfl, by rw [← HRES.out]; exact HFIN.out _ HST.out⟩
end Go.Proofs.YtnppomiggajhnaaGreatDoor.Wl

namespace Go.Proofs.YtnppomiggajhnaaGreatDoor.Wl
open Go.RowKit Go.Proofs.YtnppomiggajhnaaGreatDoor.Fld
set_option linter.unusedVariables false

def AccIs (lo B o : Nat) (ty : TypeId) (FT : List Nat) (w : World) (c : Ct) (r : Option Ct) (e : Ending) (w' : World) : Prop :=
  match r with
  | none => e = .returned (.bool false) ∧ ContS lo B o ty FT w' c ∧ Below w.heap.size w w'
  | some c' => Accd lo B o ty FT w c' e w'
theorem accIs_no {lo B o : Nat} {ty : TypeId} {FT : List Nat} {w : World} {c : Ct} (h : ContS lo B o ty FT w c) {e : Ending} {w' : World} (hh : e = .returned (.bool false) ∧ Below w.heap.size w w') : AccIs lo B o ty FT w c none e w' := ⟨hh.1, h.below hh.2, hh.2⟩
theorem accept_any {lo B o : Nat} {ty : TypeId} {FT : List Nat} {c : Ct} (num : Nat) (first : Bool) (A : Option Addr) (n cap : Nat) (b : List Int) (w : World) (h : ContS lo B o ty FT w c) (hlo : lo ≤ w.heap.size) (hr : Rd w A n b) (hA : A = none → cap = 0) (hn : n ≤ 65536) (hseg : first = false → c.segs ≠ []) (hx : c.lg.es.length ≤ 2000000) (hl : c.segs.length ≤ 2000000) (hz : ∀ s ∈ c.segs, s.size ≤ 1099511627776) :
    Calls Tryz.prog 135 #[.pointer (some ⟨B, o, none⟩), .int .i64 (num : Int), .bool first, .slice A n cap] w (AccIs lo B o ty FT w c (acc num first c b)) := by
  have hbn : b.length = n := hr.1
  cases hd : dec b with
  | none =>
    have : acc num first c b = none := by unfold acc; rw [hd]
    rw [this]
    exact (acc_no num first A n cap b w h.x hr hA hn hd).mono fun _ _ hh => accIs_no h hh
  | some ch =>
    by_cases hm : first = isHead ch
    · cases ch with
      | head n' i =>
        obtain rfl : first = true := hm
        by_cases hf : n' = num ∧ follows c n' i
        · obtain ⟨rfl, hfo⟩ := hf
          have : acc n' true c b = some ⟨if c.segs = [] then Lg.restart i else c.lg, c.segs ++ [⟨n', i, 8 + n⟩]⟩ := by
            unfold acc
            rw [hd]
            simp only
            rw [if_pos ⟨trivial, trivial, hfo⟩, hbn]
          rw [this]
          by_cases hs : c.segs = []
          · rw [if_pos hs]
            exact acc_head_first n' A n cap b w i h hlo hr hA hn hd hs hx hl
          · rw [if_neg hs]
            exact acc_head_more n' A n cap b w i h hlo hr hA hn hd hfo hs hx hl
        · have : acc num true c b = none := by
            unfold acc
            rw [hd]
            simp only
            rw [if_neg (fun hh => hf hh.2)]
          rw [this]
          refine (acc_head num A n cap b w n' i h.x hlo hr hA hn hd ?_ hx hl).mono fun _ _ hh => accIs_no h hh
          by_cases hne : n' = num
          · exact .inr fun hh => hf ⟨hne, hh⟩
          · exact .inl hne
      | entry e =>
        obtain rfl : first = false := hm
        obtain ⟨l, s, hls⟩ := snoc_of c.segs (hseg rfl)
        have hll : l.length ≤ 2000000 := by rw [hls] at hl; simp at hl; omega
        by_cases hi : e.idx = c.lg.last + 1
        · have : acc num false c b = some ⟨c.lg.add e, addSz (8 + n) c.segs⟩ := by
            unfold acc
            rw [hd]
            simp only
            rw [if_pos ⟨trivial, hi⟩, hbn]
          rw [this]
          exact acc_entry num A n cap b w e h hlo hr hA hn hd hi l s hls hll (hz s (by rw [hls]; simp)) hx
        · have : acc num false c b = none := by
            unfold acc
            rw [hd]
            simp only
            rw [if_neg (fun hh => hi hh.2)]
          rw [this]
          exact (acc_entry_no num A n cap b w e h.x hlo hr hA hn hd hi).mono fun _ _ hh => accIs_no h hh
      | cut i =>
        obtain rfl : first = false := hm
        obtain ⟨l, s, hls⟩ := snoc_of c.segs (hseg rfl)
        have hll : l.length ≤ 2000000 := by rw [hls] at hl; simp at hl; omega
        have : acc num false c b = some ⟨c.lg.cut i, addSz (8 + n) c.segs⟩ := by
          unfold acc
          rw [hd]
          simp only
          rw [if_pos trivial, hbn]
        rw [this]
        by_cases h1 : i ≤ c.lg.base
        · have hc : c.lg.cut i = Lg.restart i := by unfold Lg.cut Lg.restart; rw [if_pos h1]
          rw [hc]
          exact acc_cut_low num A n cap b w i h hlo hr hA hn hd h1 l s hls hll (hz s (by rw [hls]; simp))
        · by_cases h2 : i ≤ c.lg.last
          · exact acc_cut_mid num A n cap b w i h hlo hr hA hn hd (by omega) h2 l s hls hll (hz s (by rw [hls]; simp))
          · have hc : c.lg.cut i = c.lg := by
              unfold Lg.last at h2
              unfold Lg.cut
              rw [if_neg h1, List.take_of_length_le (by omega)]
            rw [hc]
            exact acc_cut_high num A n cap b w i h hlo hr hA hn hd (by omega) l s hls hll (hz s (by rw [hls]; simp))
      | reset i =>
        obtain rfl : first = false := hm
        obtain ⟨l, s, hls⟩ := snoc_of c.segs (hseg rfl)
        have hll : l.length ≤ 2000000 := by rw [hls] at hl; simp at hl; omega
        have : acc num false c b = some ⟨Lg.restart i, addSz (8 + n) c.segs⟩ := by
          unfold acc
          rw [hd]
          simp only
          rw [if_pos trivial, hbn]
        rw [this]
        exact acc_reset num A n cap b w i h hlo hr hA hn hd l s hls hll (hz s (by rw [hls]; simp))
    · have : acc num first c b = none := by
        unfold acc
        rw [hd]
        cases ch <;> cases first <;> simp [isHead] at hm ⊢
      rw [this]
      exact (acc_mis B o num first A n cap b w ch hr hA hn hd hm).mono fun _ _ hh => accIs_no h hh
end Go.Proofs.YtnppomiggajhnaaGreatDoor.Wl

namespace Go.Proofs.YtnppomiggajhnaaGreatDoor.Wl
open Go.RowKit Go.Proofs.YtnppomiggajhnaaGreatDoor.Fld
set_option linter.unusedVariables false

def NumsAre (w : World) (l : List Nat) (e : Ending) (w' : World) : Prop := ∃ A c, e = .returned (.slice A l.length c) ∧ Dk.RdI w' A l.length (ints l) ∧ (A = none → c = 0) ∧ l.length ≤ c ∧ (∀ a, A = some a → w.heap.size ≤ a.block) ∧ Below w.heap.size w w'
def SgR (w : World) (fs : List Dk.Fil) (n : Nat) (v i : Value) (wr : World) : Prop := ∃ k : Nat, k ≤ n ∧ i = .int .i64 (k : Int) ∧ wr.ownsRow w.heap.size 3 1 v (numsN (fs.take k)).length (vOf (numsN (fs.take k))) ∧ Below w.heap.size w wr
theorem row_below' {W W' : World} {base e s k : Nat} {v : Value} {vs : List Value} (h : W.ownsRow base e s v k vs) (hb : Below W.heap.size W W') : W'.ownsRow base e s v k vs := by
  obtain ⟨h1, h2⟩ := h
  refine ⟨h1, ?_⟩
  rcases h2 with h2 | ⟨g, cap, cur, e, h3, h4, h5⟩
  · exact .inl h2
  · exact .inr ⟨g, cap, cur, e, h3, (hb.block g (Array.getElem?_eq_some_iff.1 h4).1).trans h4, h5⟩
theorem row_base' {W : World} {base e s k : Nat} {v : Value} {vs : List Value} (h : W.ownsRow base e s v k vs) : ∀ r, v.ownBlock = some r → base ≤ r := by
  intro r hr
  rcases h.2 with ⟨rfl, _⟩ | ⟨g, cap, cur, rfl, hg, _⟩
  · simp [Value.ownBlock] at hr
  · simp [Value.ownBlock] at hr; omega
set_option maxRecDepth 100000 in
set_option maxHeartbeats 3200000 in
theorem segnums_any (g b : Nat) (m : List Dk.Ent) (t : Dk.St) (w : World) (h : Dk.Im w g b m t) (hB : Base w) (hm : t.fs.length ≤ 900000) :
    Calls Tryz.prog 99 #[.pointer (some ⟨g, 0, none⟩)] w (NumsAre w (numsN t.fs)) := by
  have HN := Lib.hid (Dk.names_any g b m t w h (by omega))
  have HBS := Lib.hid hB
  have HML := Lib.hid h.len
  have HFS := Lib.hid h.fs
  have hmn : m.length ≤ 900000 := by rw [h.len]; exact hm
  have hw0 : 0 < w.heap.size := by have := h.lt g (by simp); omega
  clear h hB
  go_enter Tryz.func99, Tryz.ntmps99
  go_wp2_with fail
  refine HN.out.mono ?_
  clear HN
  rintro e w1 ⟨A1, c1, rfl, hs1, _, hb1⟩
  have HS1 := Lib.hid hs1
  have HB1 := Lib.hid hb1
  have HS0 := Lib.hid (show SgR w1 t.fs m.length (.slice none 0 0) (.int .i64 0) w1 from ⟨0, Nat.zero_le _, rfl, World.ownsRow_nil _ _ _ _, Below.refl _ _⟩)
  clear hs1 hb1
  obtain ⟨n, hn⟩ : ∃ n, m.length = n := ⟨_, rfl⟩
  have HNN := Lib.hid hn
  rw [hn] at HS1 HS0 hmn ⊢
  clear hn
  go_wp2_with fail
  go_loopw [3, 11] (fun v i wr => SgR w1 t.fs n v i wr) (fun _ i _ => n - (intOf i).toNat)
  case atStart => exact HS0.out
  case round =>
    obtain ⟨k, hk, rfl, hrow, hb'⟩ := hrel
    have HROW := Lib.hid hrow
    have HB := Lib.hid (HB1.out.trans (hb'.mono HB1.out.size))
    have HB' := Lib.hid hb'
    clear hrow hb'
    by_cases hlt : k < n
    · obtain ⟨lb, off, rfl, hcell⟩ := HS1.out.2.2 (by omega)
      have hc := (HB'.out.cell (lt_of_cell (hcell k hlt))).trans (hcell k hlt)
      clear hcell
      have hkm : k < m.length := by rw [HNN.out]; exact hlt
      have hkf : k < t.fs.length := by rw [← HML.out]; exact hkm
      have hname : (m.map fun e => (⟨e.nm.toArray⟩ : ByteArray)).getD k ⟨#[]⟩ = ⟨t.fs[k].1.toArray⟩ := by
        have e1 : t.fs[k] = m[k].fil := by simp [HFS.out]
        rw [e1]
        simp [hkm, Dk.Ent.fil]
      rw [hname] at hc
      have HNO := Lib.hid (numberOf_any ⟨t.fs[k].1.toArray⟩ wr (HBS.out.below HB.out))
      rw [show (ByteArray.mk t.fs[k].1.toArray).data.toList = t.fs[k].1 by simp] at HNO
      have HYES := Lib.hid (numsN_yes t.fs k hkf)
      have HNOT := Lib.hid (numsN_no t.fs k hkf)
      have HLEN := Lib.hid (Nat.le_trans (numsN_len (t.fs.take k)) (by rw [List.length_take]; omega : (t.fs.take k).length ≤ 900000))
      clear hname
      generalize t.fs[k].1 = x at *
      have i1 : (k : Int) < (n : Int) := by omega
      go_wp2_with fail
      refine HNO.out.mono ?_
      clear HNO
      rintro e w2 ⟨z, rfl, hz, hb2⟩
      have HB2' := Lib.hid (HB'.out.trans (hb2.mono HB'.out.size))
      have HROW2 := Lib.hid (row_below' HROW.out hb2)
      have HZ := Lib.hid hz
      clear hb2 hz
      by_cases hp : 0 < numOf x
      · have hz1 := HZ.out hp
        subst hz1
        have j1 : decide (0 < numOf x) = true := decide_eq_true hp
        have HT := Lib.hid (HYES.out hp)
        generalize numOf x = N at *
        have hb3 := alloc_below w2 (.cells #[.int .i64 (N : Int)] 3)
        have HROW3 := Lib.hid (row_below' HROW2.out hb3)
        have HB3' := Lib.hid (HB2'.out.trans (hb3.mono HB2'.out.size))
        have HCELL := Lib.hid (show (w2.alloc (.cells #[.int .i64 (N : Int)] 3)).cell? ⟨w2.heap.size, 0, none⟩ = some (.int .i64 (N : Int)) by rw [World.cell?_alloc_mark]; rfl)
        clear hb3
        obtain ⟨K, hK⟩ : ∃ K, (numsN (t.fs.take k)).length = K := ⟨_, rfl⟩
        have HKK := Lib.hid hK
        rw [hK] at HROW3 HLEN
        have hlen := HLEN.out
        clear hK
        go_wp2_with (at_builtin; refine wpList_append_int rfl _ _ rfl w1.heap.size _ K (vOf (numsN (t.fs.take k))) (N : Int) rfl HROW3.out w2.heap.size rfl HCELL.out (by omega) HB3'.out.size ?_; intro v4 w4 hrow4 hg4; rw [← vOf_snoc] at hrow4; have HROW4 := Lib.hid hrow4; have HG4 := Lib.hid hg4; clear hrow4 hg4)
        go_roundw
        case rel => exact ⟨k + 1, by omega, by go_num, by rw [HT.out, List.length_append, HKK.out]; exact HROW4.out, HB3'.out.grown HG4.out HB3'.out.size (row_base' HROW3.out)⟩
        case measure => simp [intOf]; omega
      · have j1 : decide (0 < numOf x) = false := decide_eq_false hp
        have HT := Lib.hid (HNOT.out hp)
        go_wp2
        go_roundw
        case rel => exact ⟨k + 1, by omega, by go_num, by rw [HT.out]; exact HROW2.out, HB2'.out⟩
        case measure => simp [intOf]; omega
    · obtain rfl : k = n := by omega
      have htk : t.fs.take k = t.fs := List.take_of_length_le (by rw [← HML.out, HNN.out]; exact Nat.le_refl _)
      rw [htk] at HROW
      obtain ⟨A, cap, hv, hri, hA, hll, hcp, hfr⟩ := row_rdI HROW.out (Nat.le_trans (numsN_len _) (by omega))
      have HF := Lib.hid (show NumsAre w (numsN t.fs) (.returned (.slice A (numsN t.fs).length cap)) wr from ⟨A, cap, rfl, hri, hA, hcp, fun a ha => Nat.le_trans HB1.out.size (hfr a ha), HB.out⟩)
      subst hv
      clear hri hA hfr htk
      generalize (numsN t.fs).length = L at *
      go_wp2
      go_ret
      exact HF.out
end Go.Proofs.YtnppomiggajhnaaGreatDoor.Wl
