/-
  Several texts in one: Layer 6: content.accept in the program, fourth part: the first HEAD. Conditions: the content lies in memory (Cont), the record's content can be read. Layer 6: content.accept in the program, fifth part: a RESET. Conditions: the content lies in memory (Cont), the record's content can be read. Layer 6: content.accept in the program, sixth part: a CUT that takes all, or nothing. Conditions: the content lies in memory (Cont), the record's content can be read. Layer 6: content.accept in the program, seventh part: a CUT that takes some entries. Conditions: the content lies in memory (Cont), the record's content can be read. Layer 6: content.accept in the program, eighth part: an ENTRY that does not follow. Conditions: the content lies in memory (Cont), the record's content can be read.
-/
import Derived.Test.YtgmpdifggaggdaaGreatDoorJWalCutM
namespace Go.Proofs.YtgmpdifggaggdaaGreatDoor.Wl
open Go.RowKit Go.Proofs.YtgmpdifggaggdaaGreatDoor.Fld
set_option linter.unusedVariables false

theorem rest2_0 {cs : Array Value} {o i : Nat} {v : Value} (h : cs[o]? = some v) : (rest2 cs o i)[o]? = some (.int .i64 ((i - 1 : Nat) : Int)) := by
  unfold rest2
  rw [Array.getElem?_setIfInBounds_ne (by omega), Array.getElem?_setIfInBounds_self_of_lt (lt_of_at' h)]
theorem rest2_1 {cs : Array Value} {o i : Nat} {v : Value} (h : cs[o + 1]? = some v) : (rest2 cs o i)[o + 1]? = some (.slice none 0 0) := by
  unfold rest2
  rw [Array.getElem?_setIfInBounds_self_of_lt (by simpa using lt_of_at' h)]
set_option maxRecDepth 100000 in
set_option maxHeartbeats 6400000 in
theorem acc_head_first {lo B o : Nat} {ty : TypeId} {FT : List Nat} {c : Ct} (num : Nat) (A : Option Addr) (n cap : Nat) (b : List Int) (w : World) (i : Nat) (h : ContS lo B o ty FT w c) (hlo : lo ≤ w.heap.size) (hr : Rd w A n b) (hA : A = none → cap = 0) (hn : n ≤ 65536) (hd : dec b = some (.head num i)) (hsg : c.segs = []) (hx : c.lg.es.length ≤ 2000000) (hl : c.segs.length ≤ 2000000) :
    Calls Tryz.prog 66 #[.pointer (some ⟨B, o, none⟩), .int .i64 (num : Int), .bool true, .slice A n cap] w (Accd lo B o ty FT w ⟨Lg.restart i, c.segs ++ [⟨num, i, 8 + n⟩]⟩) := by
  have HD := Lib.hid (decode_any A n cap b w hr hA (by omega))
  have hok := dec_ok hr.2.2.1 hd
  clear hr hA
  have hloB := h.1
  unfold Accd
  go_enter Tryz.func66, Tryz.ntmps66
  go_wp2_with fail
  refine HD.out.mono ?_
  rintro e w1 ⟨v, A2, cap2, rfl, _, h0, hb⟩
  have hv := (h0 _ hd).1
  subst hv
  rw [hd]
  simp only [Option.isSome_some]
  have HB := Lib.hid (hb.trans ((alloc_below' w1 (.cells (headC num i) 124)).mono hb.size))
  have HC := Lib.hid ((h.below hb).below (alloc_below' w1 (.cells (headC num i) 124)))
  have HH := Lib.hid (Blk.new w1 (headC num i) 124)
  clear h0 hb hd h
  unfold chV
  have HOK := Lib.hid hok
  obtain ⟨k1, k2, k3, k4⟩ := hok
  unfold MI at k4
  obtain ⟨_, cs, ve, vs, xs, hct, hFT⟩ := HC.out
  subst hFT
  have hfa := follows_none hct num i hsg
  have HFA := Lib.hid hfa
  have HCT := Lib.hid hct
  have HSP := Lib.hid (show c.segs.length = 0 by rw [hsg]; rfl)
  clear hfa hct hsg
  unfold headC at HFA
  go_wp2_with fail
  refine HFA.out.mono ?_
  rintro e w2 ⟨rfl, hb2⟩
  have HCT2 := Lib.hid (HCT.out.below hb2)
  have HB2 := Lib.hid (show Below w.heap.size w w2 from HB.out.trans (hb2.mono HB.out.size))
  have HH2 := Lib.hid (HH.out.below hb2)
  clear hb2
  unfold headC at HH2
  have d0 := HH2.out.cell 0 _ rfl
  have d1 := HH2.out.cell 1 _ rfl
  have d2 := HH2.out.cell 2 _ rfl
  have d3 := HH2.out.cell 3 _ rfl
  have d4 := HH2.out.cell 4 _ rfl
  have d5 := HH2.out.cell 5 _ rfl
  have d6 := HH2.out.cell 6 _ rfl
  have HBG := Lib.hid (begin_first B o cs ty lo c.segs.length vs _ _ (rowS c.segs) num i w2 HCT2.out.blk HCT2.out.c0 HCT2.out.c1 HCT2.out.c2 HCT2.out.t2 HCT2.out.rS HSP.out (by have := HB2.out.size; omega) k3 (by omega))
  unfold headC at HBG
  go_wp2_with fail
  refine HBG.out.mono ?_
  rintro e w3 ⟨rfl, vs3, hb3, hr3, hf3, hnb⟩
  have HC3 := Lib.hid (HCT2.out.empty (segs' := c.segs ++ [⟨num, i, 0⟩]) hb3 (by rw [Array.getElem?_setIfInBounds_ne (by omega)]; exact rest2_0 HCT2.out.c0) (by rw [Array.getElem?_setIfInBounds_ne (by omega)]; exact rest2_1 HCT2.out.c1) (Array.getElem?_setIfInBounds_self_of_lt (lt_of_at' (show (rest2 cs o i)[o + 2]? = some vs by rw [rest2_at _ _ _ _ (by omega)]; exact HCT2.out.c2))) (by
    have e1 : (c.segs ++ [(⟨num, i, 0⟩ : Sg)]).length = c.segs.length + 1 := by simp
    rw [e1, rowS_append]
    exact hr3) (head_ok HCT2.out.ok HOK.out (Lg.Ok.restart (by unfold MI; omega))))
  have HBL := Lib.hid (show Dk.Fr (CtF B ve vs) w w3 from (Dk.Fr.below HB2.out).trans hf3 (fun j hj => .inl (ctf_s j hj)))
  have HSUB := Lib.hid (show ∀ j ∈ CtF B (.slice none 0 0) vs3, j ∈ CtF B ve vs ∨ w.heap.size ≤ j from ctf_sub (fun _ h => by simp [Value.ownBlock] at h) (own_new hnb HB2.out.size))
  clear HBG hb3 hr3 hf3 hnb d0 d1 d2 d3 d4 d5 d6
  obtain ⟨c3, hc3⟩ : ∃ c3 : Ct, Ct.mk (Lg.restart i) (c.segs ++ [⟨num, i, 0⟩]) = c3 := ⟨_, rfl⟩
  rw [hc3] at HC3
  obtain ⟨L, hL⟩ : ∃ L, c.segs = L := ⟨_, rfl⟩
  obtain ⟨S, hS⟩ : ∃ S : Sg, (⟨num, i, 0⟩ : Sg) = S := ⟨_, rfl⟩
  obtain ⟨SZ, hSZ0⟩ : ∃ SZ : Nat, S.size = SZ := ⟨_, rfl⟩
  have hz0 : SZ ≤ 1099511627776 := by rw [← hSZ0, ← hS]; simp
  have HS3 := Lib.hid (show c3.segs = L ++ [S] by rw [← hc3, hL, hS])
  have HSZ0 := Lib.hid hSZ0
  have hres : (Ct.mk c3.lg (addSz (8 + n) c3.segs)) = ⟨Lg.restart i, c.segs ++ [⟨num, i, 8 + n⟩]⟩ := by
    rw [HS3.out, addSz_snoc, hL, ← hS, ← hc3]
    simp
  have HRES := Lib.hid hres
  have hLl : L.length ≤ 2000000 := by rw [← hL]; exact hl
  clear hres hc3 hL hS hSZ0
  obtain ⟨q, cp, hvq⟩ := HC3.out.seg_form HS3.out
  have HRS := Lib.hid HC3.out.rS
  obtain ⟨m, hm⟩ : ∃ m, L.length + 1 = m := ⟨_, rfl⟩
  rw [hm] at hvq
  obtain ⟨pp, hpp⟩ : ∃ pp, (m - 1) * 3 = pp := ⟨_, rfl⟩
  have HLS := Lib.hid (lastSeg_any B o q m cp _ ty w3 HC3.out.blk (by rw [HC3.out.c2, hvq]) (by omega) (by omega))
  rw [hpp] at HLS
  have HQ := Lib.hid (show vs3.ownBlock = some q by rw [hvq]; rfl)
  have HRW := Lib.hid (show w3.ownsRow lo 69 3 (.slice (some ⟨q, 0, none⟩) m cp) m (rowS (L ++ [S])) from by
    have := HC3.out.rS
    rw [HS3.out, hvq] at this
    have hlen : (L ++ [S]).length = m := by simp; omega
    rwa [hlen] at this)
  have HSZ := Lib.hid ((HC3.out.sized HS3.out hvq hm.symm (8 + n)))
  have HM := Lib.hid hm
  have HQL := Lib.hid (show lo ≤ q from (row_lo HC3.out.rS q HQ.out).1)
  have HFIN := Lib.hid (show ∀ w4 : World, Still w3 w4 → ∃ S', ContS lo B o ty S' (w4.setCell ⟨q, pp + 2, none⟩ (.int .i64 (((SZ : Nat) : Int) + (8 + (n : Int))))) ⟨c3.lg, addSz (8 + n) c3.segs⟩ ∧ Dk.Fr (CtF B ve vs) w (w4.setCell ⟨q, pp + 2, none⟩ (.int .i64 (((SZ : Nat) : Int) + (8 + (n : Int))))) ∧ ∀ j ∈ S', j ∈ CtF B ve vs ∨ w.heap.size ≤ j from fun w4 hst => by
    rw [← hpp]
    have hc4 := HC3.out.of (w' := w4) (fun i _ => by rw [hst.1])
    have h4 := hc4.sized HS3.out hvq hm.symm (8 + n)
    have ez : ((S.size + (8 + n) : Nat) : Int) = ((SZ : Nat) : Int) + (8 + (n : Int)) := by rw [HSZ0.out]; omega
    rw [ez] at h4
    exact ⟨_, ⟨hloB, _, _, _, _, h4, rfl⟩, (HBL.out.same (fr_still hst)).setCell _ (HSUB.out q (by simp [CtF, HQ.out])) _, HSUB.out⟩)
  have s2 := Lib.hid (show ∀ w4 : World, Still w3 w4 → w4.cell? ⟨q, pp + 2, none⟩ = some (.int .i64 ((SZ : Nat) : Int)) from fun w4 hst => by
    rw [← hpp]
    have := seg_cell (row_of HRW.out (w' := w4) (fun i _ => by rw [hst.1])) hm.symm 2 _ rfl
    rw [HSZ0.out] at this
    exact this)
  have f2 := Lib.hid (show ∀ w4 : World, Still w3 w4 → w4.frozen? ⟨q, pp + 2, none⟩ = false from fun w4 hst => by rw [← hpp]; exact row_free (row_of HRW.out (w' := w4) (fun i _ => by rw [hst.1])) rfl _)
  clear hm hvq hpp
  go_wp2_with (go_at_call 38; refine HLS.out.mono ?_; rintro e w4 ⟨rfl, hst⟩; have y1 := s2.out w4 hst; have y2 := f2.out w4 hst; have HST := Lib.hid hst; clear hst)
  go_ret
  exact ⟨rfl, by rw [← HRES.out]; exact HFIN.out _ HST.out⟩
end Go.Proofs.YtgmpdifggaggdaaGreatDoor.Wl

namespace Go.Proofs.YtgmpdifggaggdaaGreatDoor.Wl
open Go.RowKit Go.Proofs.YtgmpdifggaggdaaGreatDoor.Fld
set_option linter.unusedVariables false

set_option maxRecDepth 100000 in
set_option maxHeartbeats 6400000 in
theorem acc_reset {lo B o : Nat} {ty : TypeId} {FT : List Nat} {c : Ct} (num : Nat) (A : Option Addr) (n cap : Nat) (b : List Int) (w : World) (i : Nat) (h : ContS lo B o ty FT w c) (hlo : lo ≤ w.heap.size) (hr : Rd w A n b) (hA : A = none → cap = 0) (hn : n ≤ 65536) (hd : dec b = some (.reset i)) (L : List Sg) (S : Sg) (hs : c.segs = L ++ [S]) (hLl : L.length ≤ 2000000) (hz : S.size ≤ 1099511627776) :
    Calls Tryz.prog 66 #[.pointer (some ⟨B, o, none⟩), .int .i64 (num : Int), .bool false, .slice A n cap] w (Accd lo B o ty FT w ⟨Lg.restart i, addSz (8 + n) c.segs⟩) := by
  have HD := Lib.hid (decode_any A n cap b w hr hA (by omega))
  have hok := dec_ok hr.2.2.1 hd
  clear hr hA
  have hloB := h.1
  unfold Accd
  go_enter Tryz.func66, Tryz.ntmps66
  go_wp2_with fail
  refine HD.out.mono ?_
  rintro e w1 ⟨v, A2, cap2, rfl, _, h0, hb⟩
  have hv := (h0 _ hd).1
  subst hv
  rw [hd]
  simp only [Option.isSome_some]
  have HB := Lib.hid (hb.trans ((alloc_below' w1 (.cells #[.int .i64 3, .int .i64 0, .int .i64 (i : Int), .int .i64 0, .int .i64 0, .int .i64 0, .slice none 0 0] 124)).mono hb.size))
  have HC := Lib.hid ((h.below hb).below (alloc_below' w1 (.cells #[.int .i64 3, .int .i64 0, .int .i64 (i : Int), .int .i64 0, .int .i64 0, .int .i64 0, .slice none 0 0] 124)))
  have HH := Lib.hid (Blk.new w1 #[.int .i64 3, .int .i64 0, .int .i64 (i : Int), .int .i64 0, .int .i64 0, .int .i64 0, .slice none 0 0] 124)
  clear h0 hb hd h
  unfold chV
  obtain ⟨k1, k2⟩ := hok
  unfold MI at k2
  obtain ⟨_, cs, ve, vs3, xs, hct, hFT⟩ := HC.out
  subst hFT
  have HCT := Lib.hid hct
  have HS := Lib.hid hs
  clear hct hs
  go_wp2_with fail
  obtain ⟨wa, hwa⟩ : ∃ wa, w1.alloc (.cells #[.int .i64 3, .int .i64 0, .int .i64 (i : Int), .int .i64 0, .int .i64 0, .int .i64 0, .slice none 0 0] 124) = wa := ⟨_, rfl⟩
  rw [hwa] at HB HCT HH ⊢
  have d2 := HH.out.cell 2 _ rfl
  have HRS := Lib.hid (show ∀ wq : World, wq.heap = wa.heap → wq.os = wa.os → wq.tape = wa.tape → wq.output = wa.output → Calls Tryz.prog 90 #[.pointer (some ⟨B, o, none⟩), .int .i64 (i : Int)] wq fun e w' => e = .returned (.tuple #[]) ∧ Blk w' B (rest2 cs o i) ty ∧ Dk.Fr [B] wa w' from fun wq q1 q2 q3 q4 => (restart_any B o cs ty i wq (by unfold Blk; rw [q1]; exact HCT.out.blk) _ _ HCT.out.c0 HCT.out.c1 k1 (by omega)).mono fun _ _ ⟨he, hb, hf⟩ => ⟨he, hb, ⟨hf.os.trans q2, hf.tape.trans q3, hf.output.trans q4, by rw [← q1]; exact hf.size, fun k hk hn => by rw [hf.block k (by rw [q1]; exact hk) hn, q1]⟩⟩)
  go_region_with ((go_at_call 90; refine (HRS.out _ (by exact rfl) (by exact rfl) (by exact rfl) (by exact rfl)).mono ?_; rintro e w3 ⟨rfl, hb1, hf1⟩; have HBw := Lib.hid hb1; have HF1 := Lib.hid hf1; clear hb1 hf1))
  have HC3 := Lib.hid (HCT.out.empty (i := i) (segs' := c.segs) HBw.out (rest2_0 HCT.out.c0) (rest2_1 HCT.out.c1) (show (rest2 cs o i)[o + 2]? = some vs3 by rw [rest2_at _ _ _ _ (by omega)]; exact HCT.out.c2) (row_of HCT.out.rS (fun j hj => HF1.out.block j (row_lo HCT.out.rS j hj).2 (by have := row_ne HCT.out.rS HCT.out.blk HCT.out.t2; intro hm; simp at hm; subst hm; exact this hj))) ⟨Lg.Ok.restart (by unfold MI; omega), HCT.out.ok.2⟩)
  have HBL := Lib.hid (show Dk.Fr (CtF B ve vs3) w w3 from (Dk.Fr.below HB.out).trans HF1.out (fun j hj => .inl (ctf_B j hj)))
  have HSUB := Lib.hid (show ∀ j ∈ CtF B (.slice none 0 0) vs3, j ∈ CtF B ve vs3 ∨ w.heap.size ≤ j from ctf_sub (fun _ h => by simp [Value.ownBlock] at h) (fun _ h => .inl h))
  clear d2 hwa
  obtain ⟨c3, hc3⟩ : ∃ c3 : Ct, Ct.mk (Lg.restart i) c.segs = c3 := ⟨_, rfl⟩
  rw [hc3] at HC3
  obtain ⟨SZ, hSZ0⟩ : ∃ SZ : Nat, S.size = SZ := ⟨_, rfl⟩
  have hz0 : SZ ≤ 1099511627776 := by rw [← hSZ0]; exact hz
  have HS3 := Lib.hid (show c3.segs = L ++ [S] by rw [← hc3]; exact HS.out)
  have HSZ0 := Lib.hid hSZ0
  have HRES := Lib.hid (show (Ct.mk c3.lg (addSz (8 + n) c3.segs)) = ⟨Lg.restart i, addSz (8 + n) c.segs⟩ by rw [← hc3])
  clear hc3 hSZ0 hz
  obtain ⟨q, cp, hvq⟩ := HC3.out.seg_form HS3.out
  have HRS := Lib.hid HC3.out.rS
  obtain ⟨m, hm⟩ : ∃ m, L.length + 1 = m := ⟨_, rfl⟩
  rw [hm] at hvq
  obtain ⟨pp, hpp⟩ : ∃ pp, (m - 1) * 3 = pp := ⟨_, rfl⟩
  have HLS := Lib.hid (lastSeg_any B o q m cp _ ty w3 HC3.out.blk (by rw [HC3.out.c2, hvq]) (by omega) (by omega))
  rw [hpp] at HLS
  have HQ := Lib.hid (show vs3.ownBlock = some q by rw [hvq]; rfl)
  have HRW := Lib.hid (show w3.ownsRow lo 69 3 (.slice (some ⟨q, 0, none⟩) m cp) m (rowS (L ++ [S])) from by
    have := HC3.out.rS
    rw [HS3.out, hvq] at this
    have hlen : (L ++ [S]).length = m := by simp; omega
    rwa [hlen] at this)
  have HSZ := Lib.hid ((HC3.out.sized HS3.out hvq hm.symm (8 + n)))
  have HM := Lib.hid hm
  have HQL := Lib.hid (show lo ≤ q from (row_lo HC3.out.rS q HQ.out).1)
  have HFIN := Lib.hid (show ∀ w4 : World, Still w3 w4 → ∃ S', ContS lo B o ty S' (w4.setCell ⟨q, pp + 2, none⟩ (.int .i64 (((SZ : Nat) : Int) + (8 + (n : Int))))) ⟨c3.lg, addSz (8 + n) c3.segs⟩ ∧ Dk.Fr (CtF B ve vs3) w (w4.setCell ⟨q, pp + 2, none⟩ (.int .i64 (((SZ : Nat) : Int) + (8 + (n : Int))))) ∧ ∀ j ∈ S', j ∈ CtF B ve vs3 ∨ w.heap.size ≤ j from fun w4 hst => by
    rw [← hpp]
    have hc4 := HC3.out.of (w' := w4) (fun i _ => by rw [hst.1])
    have h4 := hc4.sized HS3.out hvq hm.symm (8 + n)
    have ez : ((S.size + (8 + n) : Nat) : Int) = ((SZ : Nat) : Int) + (8 + (n : Int)) := by rw [HSZ0.out]; omega
    rw [ez] at h4
    exact ⟨_, ⟨hloB, _, _, _, _, h4, rfl⟩, (HBL.out.same (fr_still hst)).setCell _ (HSUB.out q (by simp [CtF, HQ.out])) _, HSUB.out⟩)
  have s2 := Lib.hid (show ∀ w4 : World, Still w3 w4 → w4.cell? ⟨q, pp + 2, none⟩ = some (.int .i64 ((SZ : Nat) : Int)) from fun w4 hst => by
    rw [← hpp]
    have := seg_cell (row_of HRW.out (w' := w4) (fun i _ => by rw [hst.1])) hm.symm 2 _ rfl
    rw [HSZ0.out] at this
    exact this)
  have f2 := Lib.hid (show ∀ w4 : World, Still w3 w4 → w4.frozen? ⟨q, pp + 2, none⟩ = false from fun w4 hst => by rw [← hpp]; exact row_free (row_of HRW.out (w' := w4) (fun i _ => by rw [hst.1])) rfl _)
  clear hm hvq hpp
  go_wp2_with (go_at_call 38; refine HLS.out.mono ?_; rintro e w4 ⟨rfl, hst⟩; have y1 := s2.out w4 hst; have y2 := f2.out w4 hst; have HST := Lib.hid hst; clear hst)
  go_ret
  exact ⟨rfl, by rw [← HRES.out]; exact HFIN.out _ HST.out⟩
end Go.Proofs.YtgmpdifggaggdaaGreatDoor.Wl

namespace Go.Proofs.YtgmpdifggaggdaaGreatDoor.Wl
open Go.RowKit Go.Proofs.YtgmpdifggaggdaaGreatDoor.Fld
set_option linter.unusedVariables false

set_option maxRecDepth 100000 in
set_option maxHeartbeats 6400000 in
theorem acc_cut_low {lo B o : Nat} {ty : TypeId} {FT : List Nat} {c : Ct} (num : Nat) (A : Option Addr) (n cap : Nat) (b : List Int) (w : World) (i : Nat) (h : ContS lo B o ty FT w c) (hlo : lo ≤ w.heap.size) (hr : Rd w A n b) (hA : A = none → cap = 0) (hn : n ≤ 65536) (hd : dec b = some (.cut i)) (hcl : i ≤ c.lg.base) (L : List Sg) (S : Sg) (hs : c.segs = L ++ [S]) (hLl : L.length ≤ 2000000) (hz : S.size ≤ 1099511627776) :
    Calls Tryz.prog 66 #[.pointer (some ⟨B, o, none⟩), .int .i64 (num : Int), .bool false, .slice A n cap] w (Accd lo B o ty FT w ⟨Lg.restart i, addSz (8 + n) c.segs⟩) := by
  have HD := Lib.hid (decode_any A n cap b w hr hA (by omega))
  have hok := dec_ok hr.2.2.1 hd
  clear hr hA
  have hloB := h.1
  unfold Accd
  go_enter Tryz.func66, Tryz.ntmps66
  go_wp2_with fail
  refine HD.out.mono ?_
  rintro e w1 ⟨v, A2, cap2, rfl, _, h0, hb⟩
  have hv := (h0 _ hd).1
  subst hv
  rw [hd]
  simp only [Option.isSome_some]
  have HB := Lib.hid (hb.trans ((alloc_below' w1 (.cells #[.int .i64 2, .int .i64 0, .int .i64 (i : Int), .int .i64 0, .int .i64 0, .int .i64 0, .slice none 0 0] 124)).mono hb.size))
  have HC := Lib.hid ((h.below hb).below (alloc_below' w1 (.cells #[.int .i64 2, .int .i64 0, .int .i64 (i : Int), .int .i64 0, .int .i64 0, .int .i64 0, .slice none 0 0] 124)))
  have HH := Lib.hid (Blk.new w1 #[.int .i64 2, .int .i64 0, .int .i64 (i : Int), .int .i64 0, .int .i64 0, .int .i64 0, .slice none 0 0] 124)
  clear h0 hb hd h
  unfold chV
  obtain ⟨k1, k2⟩ := hok
  unfold MI at k2
  obtain ⟨_, cs, ve, vs3, xs, hct, hFT⟩ := HC.out
  subst hFT
  have HCT := Lib.hid hct
  have HS := Lib.hid hs
  clear hct hs
  go_wp2_with fail
  obtain ⟨wa, hwa⟩ : ∃ wa, w1.alloc (.cells #[.int .i64 2, .int .i64 0, .int .i64 (i : Int), .int .i64 0, .int .i64 0, .int .i64 0, .slice none 0 0] 124) = wa := ⟨_, rfl⟩
  rw [hwa] at HB HCT HH ⊢
  have d2 := HH.out.cell 2 _ rfl
  have HRS := Lib.hid (show ∀ wq : World, wq.heap = wa.heap → wq.os = wa.os → wq.tape = wa.tape → wq.output = wa.output → Calls Tryz.prog 89 #[.pointer (some ⟨B, o, none⟩), .int .i64 (i : Int)] wq fun e w' => e = .returned (.tuple #[]) ∧ Blk w' B (rest2 cs o i) ty ∧ Dk.Fr [B] wa w' from fun wq q1 q2 q3 q4 => (cut_low B o cs ty c.lg.base i _ wq (by unfold Blk; rw [q1]; exact HCT.out.blk) HCT.out.c0 HCT.out.c1 k1 (by omega) hcl).mono fun _ _ ⟨he, hb, hf⟩ => ⟨he, hb, ⟨hf.os.trans q2, hf.tape.trans q3, hf.output.trans q4, by rw [← q1]; exact hf.size, fun k hk hn => by rw [hf.block k (by rw [q1]; exact hk) hn, q1]⟩⟩)
  go_region_with ((go_at_call 89; refine (HRS.out _ (by exact rfl) (by exact rfl) (by exact rfl) (by exact rfl)).mono ?_; rintro e w3 ⟨rfl, hb1, hf1⟩; have HBw := Lib.hid hb1; have HF1 := Lib.hid hf1; clear hb1 hf1))
  have HC3 := Lib.hid (HCT.out.empty (i := i) (segs' := c.segs) HBw.out (rest2_0 HCT.out.c0) (rest2_1 HCT.out.c1) (show (rest2 cs o i)[o + 2]? = some vs3 by rw [rest2_at _ _ _ _ (by omega)]; exact HCT.out.c2) (row_of HCT.out.rS (fun j hj => HF1.out.block j (row_lo HCT.out.rS j hj).2 (by have := row_ne HCT.out.rS HCT.out.blk HCT.out.t2; intro hm; simp at hm; subst hm; exact this hj))) ⟨Lg.Ok.restart (by unfold MI; omega), HCT.out.ok.2⟩)
  have HBL := Lib.hid (show Dk.Fr (CtF B ve vs3) w w3 from (Dk.Fr.below HB.out).trans HF1.out (fun j hj => .inl (ctf_B j hj)))
  have HSUB := Lib.hid (show ∀ j ∈ CtF B (.slice none 0 0) vs3, j ∈ CtF B ve vs3 ∨ w.heap.size ≤ j from ctf_sub (fun _ h => by simp [Value.ownBlock] at h) (fun _ h => .inl h))
  clear d2 hwa
  obtain ⟨c3, hc3⟩ : ∃ c3 : Ct, Ct.mk (Lg.restart i) c.segs = c3 := ⟨_, rfl⟩
  rw [hc3] at HC3
  obtain ⟨SZ, hSZ0⟩ : ∃ SZ : Nat, S.size = SZ := ⟨_, rfl⟩
  have hz0 : SZ ≤ 1099511627776 := by rw [← hSZ0]; exact hz
  have HS3 := Lib.hid (show c3.segs = L ++ [S] by rw [← hc3]; exact HS.out)
  have HSZ0 := Lib.hid hSZ0
  have HRES := Lib.hid (show (Ct.mk c3.lg (addSz (8 + n) c3.segs)) = ⟨Lg.restart i, addSz (8 + n) c.segs⟩ by rw [← hc3])
  clear hc3 hSZ0 hz
  obtain ⟨q, cp, hvq⟩ := HC3.out.seg_form HS3.out
  have HRS := Lib.hid HC3.out.rS
  obtain ⟨m, hm⟩ : ∃ m, L.length + 1 = m := ⟨_, rfl⟩
  rw [hm] at hvq
  obtain ⟨pp, hpp⟩ : ∃ pp, (m - 1) * 3 = pp := ⟨_, rfl⟩
  have HLS := Lib.hid (lastSeg_any B o q m cp _ ty w3 HC3.out.blk (by rw [HC3.out.c2, hvq]) (by omega) (by omega))
  rw [hpp] at HLS
  have HQ := Lib.hid (show vs3.ownBlock = some q by rw [hvq]; rfl)
  have HRW := Lib.hid (show w3.ownsRow lo 69 3 (.slice (some ⟨q, 0, none⟩) m cp) m (rowS (L ++ [S])) from by
    have := HC3.out.rS
    rw [HS3.out, hvq] at this
    have hlen : (L ++ [S]).length = m := by simp; omega
    rwa [hlen] at this)
  have HSZ := Lib.hid ((HC3.out.sized HS3.out hvq hm.symm (8 + n)))
  have HM := Lib.hid hm
  have HQL := Lib.hid (show lo ≤ q from (row_lo HC3.out.rS q HQ.out).1)
  have HFIN := Lib.hid (show ∀ w4 : World, Still w3 w4 → ∃ S', ContS lo B o ty S' (w4.setCell ⟨q, pp + 2, none⟩ (.int .i64 (((SZ : Nat) : Int) + (8 + (n : Int))))) ⟨c3.lg, addSz (8 + n) c3.segs⟩ ∧ Dk.Fr (CtF B ve vs3) w (w4.setCell ⟨q, pp + 2, none⟩ (.int .i64 (((SZ : Nat) : Int) + (8 + (n : Int))))) ∧ ∀ j ∈ S', j ∈ CtF B ve vs3 ∨ w.heap.size ≤ j from fun w4 hst => by
    rw [← hpp]
    have hc4 := HC3.out.of (w' := w4) (fun i _ => by rw [hst.1])
    have h4 := hc4.sized HS3.out hvq hm.symm (8 + n)
    have ez : ((S.size + (8 + n) : Nat) : Int) = ((SZ : Nat) : Int) + (8 + (n : Int)) := by rw [HSZ0.out]; omega
    rw [ez] at h4
    exact ⟨_, ⟨hloB, _, _, _, _, h4, rfl⟩, (HBL.out.same (fr_still hst)).setCell _ (HSUB.out q (by simp [CtF, HQ.out])) _, HSUB.out⟩)
  have s2 := Lib.hid (show ∀ w4 : World, Still w3 w4 → w4.cell? ⟨q, pp + 2, none⟩ = some (.int .i64 ((SZ : Nat) : Int)) from fun w4 hst => by
    rw [← hpp]
    have := seg_cell (row_of HRW.out (w' := w4) (fun i _ => by rw [hst.1])) hm.symm 2 _ rfl
    rw [HSZ0.out] at this
    exact this)
  have f2 := Lib.hid (show ∀ w4 : World, Still w3 w4 → w4.frozen? ⟨q, pp + 2, none⟩ = false from fun w4 hst => by rw [← hpp]; exact row_free (row_of HRW.out (w' := w4) (fun i _ => by rw [hst.1])) rfl _)
  clear hm hvq hpp
  go_wp2_with (go_at_call 38; refine HLS.out.mono ?_; rintro e w4 ⟨rfl, hst⟩; have y1 := s2.out w4 hst; have y2 := f2.out w4 hst; have HST := Lib.hid hst; clear hst)
  go_ret
  exact ⟨rfl, by rw [← HRES.out]; exact HFIN.out _ HST.out⟩
set_option maxRecDepth 100000 in
set_option maxHeartbeats 6400000 in
theorem acc_cut_high {lo B o : Nat} {ty : TypeId} {FT : List Nat} {c : Ct} (num : Nat) (A : Option Addr) (n cap : Nat) (b : List Int) (w : World) (i : Nat) (h : ContS lo B o ty FT w c) (hlo : lo ≤ w.heap.size) (hr : Rd w A n b) (hA : A = none → cap = 0) (hn : n ≤ 65536) (hd : dec b = some (.cut i)) (hcl : c.lg.last < i) (L : List Sg) (S : Sg) (hs : c.segs = L ++ [S]) (hLl : L.length ≤ 2000000) (hz : S.size ≤ 1099511627776) :
    Calls Tryz.prog 66 #[.pointer (some ⟨B, o, none⟩), .int .i64 (num : Int), .bool false, .slice A n cap] w (Accd lo B o ty FT w ⟨c.lg, addSz (8 + n) c.segs⟩) := by
  have HD := Lib.hid (decode_any A n cap b w hr hA (by omega))
  have hok := dec_ok hr.2.2.1 hd
  clear hr hA
  have hloB := h.1
  unfold Accd
  go_enter Tryz.func66, Tryz.ntmps66
  go_wp2_with fail
  refine HD.out.mono ?_
  rintro e w1 ⟨v, A2, cap2, rfl, _, h0, hb⟩
  have hv := (h0 _ hd).1
  subst hv
  rw [hd]
  simp only [Option.isSome_some]
  have HB := Lib.hid (hb.trans ((alloc_below' w1 (.cells #[.int .i64 2, .int .i64 0, .int .i64 (i : Int), .int .i64 0, .int .i64 0, .int .i64 0, .slice none 0 0] 124)).mono hb.size))
  have HC := Lib.hid ((h.below hb).below (alloc_below' w1 (.cells #[.int .i64 2, .int .i64 0, .int .i64 (i : Int), .int .i64 0, .int .i64 0, .int .i64 0, .slice none 0 0] 124)))
  have HH := Lib.hid (Blk.new w1 #[.int .i64 2, .int .i64 0, .int .i64 (i : Int), .int .i64 0, .int .i64 0, .int .i64 0, .slice none 0 0] 124)
  clear h0 hb hd h
  unfold chV
  obtain ⟨k1, k2⟩ := hok
  unfold MI at k2
  obtain ⟨_, cs, ve, vs3, xs, hct, hFT⟩ := HC.out
  subst hFT
  have HCT := Lib.hid hct
  have HS := Lib.hid hs
  clear hct hs
  go_wp2_with fail
  obtain ⟨wa, hwa⟩ : ∃ wa, w1.alloc (.cells #[.int .i64 2, .int .i64 0, .int .i64 (i : Int), .int .i64 0, .int .i64 0, .int .i64 0, .slice none 0 0] 124) = wa := ⟨_, rfl⟩
  rw [hwa] at HB HCT HH ⊢
  have d2 := HH.out.cell 2 _ rfl
  obtain ⟨VA, vcap, hve, _⟩ := row_slice HCT.out.rE
  have hlast : c.lg.last = c.lg.base + xs.length := by unfold Lg.last; rw [HCT.out.es]; simp
  have hbb : c.lg.base + xs.length ≤ 4611686018427387904 := by have := HCT.out.ok.1.1; unfold MI at this; omega
  have HRS := Lib.hid (show ∀ wq : World, wq.heap = wa.heap → wq.os = wa.os → wq.tape = wa.tape → wq.output = wa.output → Calls Tryz.prog 89 #[.pointer (some ⟨B, o, none⟩), .int .i64 (i : Int)] wq fun e w' => e = .returned (.tuple #[]) ∧ Still wa w' from fun wq q1 q2 q3 q4 => (cut_high B o cs ty c.lg.base i xs.length vcap VA wq (by unfold Blk; rw [q1]; exact HCT.out.blk) HCT.out.c0 (by rw [HCT.out.c1, hve]) hbb (by omega) (by omega)).mono fun _ _ ⟨he, hst⟩ => ⟨he, hst.1.trans q1, hst.2.1.trans q2, hst.2.2.1.trans q3, hst.2.2.2.trans q4⟩)
  clear hve hlast hbb hcl
  go_region_with ((go_at_call 89; refine (HRS.out _ (by exact rfl) (by exact rfl) (by exact rfl) (by exact rfl)).mono ?_; rintro e w3 ⟨rfl, hst1⟩; have HST1 := Lib.hid hst1; clear hst1))
  have HC3 := Lib.hid (HCT.out.of (w' := w3) (fun j _ => by rw [HST1.out.1]))
  have HBL := Lib.hid (show Dk.Fr (CtF B ve vs3) w w3 from (Dk.Fr.below HB.out).same (fr_still HST1.out))
  have HSUB := Lib.hid (show ∀ j ∈ CtF B ve vs3, j ∈ CtF B ve vs3 ∨ w.heap.size ≤ j from ctf_sub (fun _ h => .inl h) (fun _ h => .inl h))
  clear d2 hwa
  obtain ⟨c3, hc3⟩ : ∃ c3 : Ct, c = c3 := ⟨_, rfl⟩
  rw [hc3] at HC3
  obtain ⟨SZ, hSZ0⟩ : ∃ SZ : Nat, S.size = SZ := ⟨_, rfl⟩
  have hz0 : SZ ≤ 1099511627776 := by rw [← hSZ0]; exact hz
  have HS3 := Lib.hid (show c3.segs = L ++ [S] by rw [← hc3]; exact HS.out)
  have HSZ0 := Lib.hid hSZ0
  have HRES := Lib.hid (show (Ct.mk c3.lg (addSz (8 + n) c3.segs)) = ⟨c.lg, addSz (8 + n) c.segs⟩ by rw [← hc3])
  clear hc3 hSZ0 hz
  obtain ⟨q, cp, hvq⟩ := HC3.out.seg_form HS3.out
  have HRS := Lib.hid HC3.out.rS
  obtain ⟨m, hm⟩ : ∃ m, L.length + 1 = m := ⟨_, rfl⟩
  rw [hm] at hvq
  obtain ⟨pp, hpp⟩ : ∃ pp, (m - 1) * 3 = pp := ⟨_, rfl⟩
  have HLS := Lib.hid (lastSeg_any B o q m cp _ ty w3 HC3.out.blk (by rw [HC3.out.c2, hvq]) (by omega) (by omega))
  rw [hpp] at HLS
  have HQ := Lib.hid (show vs3.ownBlock = some q by rw [hvq]; rfl)
  have HRW := Lib.hid (show w3.ownsRow lo 69 3 (.slice (some ⟨q, 0, none⟩) m cp) m (rowS (L ++ [S])) from by
    have := HC3.out.rS
    rw [HS3.out, hvq] at this
    have hlen : (L ++ [S]).length = m := by simp; omega
    rwa [hlen] at this)
  have HSZ := Lib.hid ((HC3.out.sized HS3.out hvq hm.symm (8 + n)))
  have HM := Lib.hid hm
  have HQL := Lib.hid (show lo ≤ q from (row_lo HC3.out.rS q HQ.out).1)
  have HFIN := Lib.hid (show ∀ w4 : World, Still w3 w4 → ∃ S', ContS lo B o ty S' (w4.setCell ⟨q, pp + 2, none⟩ (.int .i64 (((SZ : Nat) : Int) + (8 + (n : Int))))) ⟨c3.lg, addSz (8 + n) c3.segs⟩ ∧ Dk.Fr (CtF B ve vs3) w (w4.setCell ⟨q, pp + 2, none⟩ (.int .i64 (((SZ : Nat) : Int) + (8 + (n : Int))))) ∧ ∀ j ∈ S', j ∈ CtF B ve vs3 ∨ w.heap.size ≤ j from fun w4 hst => by
    rw [← hpp]
    have hc4 := HC3.out.of (w' := w4) (fun i _ => by rw [hst.1])
    have h4 := hc4.sized HS3.out hvq hm.symm (8 + n)
    have ez : ((S.size + (8 + n) : Nat) : Int) = ((SZ : Nat) : Int) + (8 + (n : Int)) := by rw [HSZ0.out]; omega
    rw [ez] at h4
    exact ⟨_, ⟨hloB, _, _, _, _, h4, rfl⟩, (HBL.out.same (fr_still hst)).setCell _ (HSUB.out q (by simp [CtF, HQ.out])) _, HSUB.out⟩)
  have s2 := Lib.hid (show ∀ w4 : World, Still w3 w4 → w4.cell? ⟨q, pp + 2, none⟩ = some (.int .i64 ((SZ : Nat) : Int)) from fun w4 hst => by
    rw [← hpp]
    have := seg_cell (row_of HRW.out (w' := w4) (fun i _ => by rw [hst.1])) hm.symm 2 _ rfl
    rw [HSZ0.out] at this
    exact this)
  have f2 := Lib.hid (show ∀ w4 : World, Still w3 w4 → w4.frozen? ⟨q, pp + 2, none⟩ = false from fun w4 hst => by rw [← hpp]; exact row_free (row_of HRW.out (w' := w4) (fun i _ => by rw [hst.1])) rfl _)
  clear hm hvq hpp
  go_wp2_with (go_at_call 38; refine HLS.out.mono ?_; rintro e w4 ⟨rfl, hst⟩; have y1 := s2.out w4 hst; have y2 := f2.out w4 hst; have HST := Lib.hid hst; clear hst)
  go_ret
  exact ⟨rfl, by rw [← HRES.out]; exact HFIN.out _ HST.out⟩
end Go.Proofs.YtgmpdifggaggdaaGreatDoor.Wl

namespace Go.Proofs.YtgmpdifggaggdaaGreatDoor.Wl
open Go.RowKit Go.Proofs.YtgmpdifggaggdaaGreatDoor.Fld
set_option linter.unusedVariables false

theorem rowE_take (xs : List EA) : ∀ k, rowE (xs.take k) = (rowE xs).take (k * 4) := by
  induction xs with
  | nil => intro k; simp [rowE]
  | cons x xs ih =>
    intro k
    cases k with
    | zero => simp [rowE]
    | succ k =>
      have e : ∀ ys, rowE (x :: ys) = x.cells ++ rowE ys := fun ys => by simp [rowE]
      rw [List.take_succ_cons, e, e, ih, List.take_append, show x.cells.length = 4 from rfl, List.take_of_length_le (show x.cells.length ≤ (k + 1) * 4 by show 4 ≤ _; omega)]
      congr 2
      omega
theorem Cont.cutm {lo B o : Nat} {cs : Array Value} {ty : TypeId} {w : World} {ve vs : Value} {xs : List EA} {c : Ct} (h : Cont lo B o cs ty w ve vs xs c) {w' : World} {g cap k : Nat} {lg' : Lg} (hve : ve = .slice (some ⟨g, 0, none⟩) xs.length cap) (hb : Blk w' B (cs.setIfInBounds (o + 1) (.slice (some ⟨g, 0, none⟩) k cap)) ty)
    (hr : w'.ownsRow lo 49 4 (.slice (some ⟨g, 0, none⟩) k cap) k ((rowE xs).take (k * 4))) (hf : Dk.Fr [B, g] w w') (hk : k ≤ xs.length) (hlg : lg' = ⟨c.lg.base, c.lg.es.take k⟩) (hok : lg'.Ok) : Cont lo B o (cs.setIfInBounds (o + 1) (.slice (some ⟨g, 0, none⟩) k cap)) ty w' (.slice (some ⟨g, 0, none⟩) k cap) vs (xs.take k) ⟨lg', c.segs⟩ := by
  have hg : ve.ownBlock = some g := by rw [hve]; rfl
  have hne : ∀ i, (∃ sz n ys et, et ≠ 49 ∧ et ≠ ty ∧ ∃ v, w.ownsRow lo et sz v n ys ∧ v.ownBlock = some i) → w'.heap[i]? = w.heap[i]? := by
    rintro i ⟨sz, n, ys, et, h1, h2, v, hrow, hv⟩
    refine hf.block i (row_lo hrow i hv).2 ?_
    intro hm
    simp at hm
    rcases hm with rfl | rfl
    · exact row_ne hrow h.blk h2 hv
    · exact rows_ne hrow h.rE h1 _ hv hg
  have hl : (xs.take k).length = k := by rw [List.length_take]; omega
  subst hlg
  refine ⟨hb, by rw [Array.getElem?_setIfInBounds_ne (by omega)]; exact h.c0, Array.getElem?_setIfInBounds_self_of_lt (lt_of_at' h.c1), by rw [Array.getElem?_setIfInBounds_ne (by omega)]; exact h.c2, by rw [h.es, List.map_take], ?_, row_of h.rS (fun i hi => hne i ⟨_, _, _, _, by decide, h.t2, _, h.rS, hi⟩), fun x hx => (h.dat x (List.mem_of_mem_take hx)).of (fun i hi => hne i ⟨_, _, _, _, by decide, h.t3, _, (h.dat x (List.mem_of_mem_take hx)).2, hi⟩), ⟨hok, h.ok.2⟩, h.t1, h.t2, h.t3⟩
  rw [hl, rowE_take]
  exact hr
set_option maxRecDepth 100000 in
set_option maxHeartbeats 6400000 in
theorem acc_cut_mid {lo B o : Nat} {ty : TypeId} {FT : List Nat} {c : Ct} (num : Nat) (A : Option Addr) (n cap : Nat) (b : List Int) (w : World) (i : Nat) (h : ContS lo B o ty FT w c) (hlo : lo ≤ w.heap.size) (hr : Rd w A n b) (hA : A = none → cap = 0) (hn : n ≤ 65536) (hd : dec b = some (.cut i)) (hcl : c.lg.base < i) (hcm : i ≤ c.lg.last) (L : List Sg) (S : Sg) (hs : c.segs = L ++ [S]) (hLl : L.length ≤ 2000000) (hz : S.size ≤ 1099511627776) :
    Calls Tryz.prog 66 #[.pointer (some ⟨B, o, none⟩), .int .i64 (num : Int), .bool false, .slice A n cap] w (Accd lo B o ty FT w ⟨c.lg.cut i, addSz (8 + n) c.segs⟩) := by
  have HD := Lib.hid (decode_any A n cap b w hr hA (by omega))
  have hok := dec_ok hr.2.2.1 hd
  clear hr hA
  have hloB := h.1
  unfold Accd
  go_enter Tryz.func66, Tryz.ntmps66
  go_wp2_with fail
  refine HD.out.mono ?_
  rintro e w1 ⟨v, A2, cap2, rfl, _, h0, hb⟩
  have hv := (h0 _ hd).1
  subst hv
  rw [hd]
  simp only [Option.isSome_some]
  have HB := Lib.hid (hb.trans ((alloc_below' w1 (.cells #[.int .i64 2, .int .i64 0, .int .i64 (i : Int), .int .i64 0, .int .i64 0, .int .i64 0, .slice none 0 0] 124)).mono hb.size))
  have HC := Lib.hid ((h.below hb).below (alloc_below' w1 (.cells #[.int .i64 2, .int .i64 0, .int .i64 (i : Int), .int .i64 0, .int .i64 0, .int .i64 0, .slice none 0 0] 124)))
  have HH := Lib.hid (Blk.new w1 #[.int .i64 2, .int .i64 0, .int .i64 (i : Int), .int .i64 0, .int .i64 0, .int .i64 0, .slice none 0 0] 124)
  clear h0 hb hd h
  unfold chV
  obtain ⟨k1, k2⟩ := hok
  unfold MI at k2
  obtain ⟨_, cs, ve, vs3, xs, hct, hFT⟩ := HC.out
  subst hFT
  have HCT := Lib.hid hct
  have HS := Lib.hid hs
  clear hct hs
  go_wp2_with fail
  obtain ⟨wa, hwa⟩ : ∃ wa, w1.alloc (.cells #[.int .i64 2, .int .i64 0, .int .i64 (i : Int), .int .i64 0, .int .i64 0, .int .i64 0, .slice none 0 0] 124) = wa := ⟨_, rfl⟩
  rw [hwa] at HB HCT HH ⊢
  have d2 := HH.out.cell 2 _ rfl
  have hlast : c.lg.last = c.lg.base + xs.length := by unfold Lg.last; rw [HCT.out.es]; simp
  have hbb : c.lg.base + xs.length ≤ 4611686018427387904 := by have := HCT.out.ok.1.1; unfold MI at this; omega
  obtain ⟨g, vcap, hve⟩ : ∃ g vcap, ve = .slice (some ⟨g, 0, none⟩) xs.length vcap := by
    rcases HCT.out.rE.2 with ⟨_, h0⟩ | ⟨g, cp, cur, hv, _⟩
    · omega
    · exact ⟨g, cp, hv⟩
  obtain ⟨k, hk⟩ : ∃ k, i - 1 - c.lg.base = k := ⟨_, rfl⟩
  have HRS := Lib.hid (show ∀ wq : World, wq.heap = wa.heap → wq.os = wa.os → wq.tape = wa.tape → wq.output = wa.output → Calls Tryz.prog 89 #[.pointer (some ⟨B, o, none⟩), .int .i64 (i : Int)] wq fun e w' => e = .returned (.tuple #[]) ∧ Blk w' B (cs.setIfInBounds (o + 1) (.slice (some ⟨g, 0, none⟩) k vcap)) ty ∧ w'.ownsRow lo 49 4 (.slice (some ⟨g, 0, none⟩) k vcap) k ((rowE xs).take (k * 4)) ∧ Dk.Fr [B, g] wa w' from fun wq q1 q2 q3 q4 => by
    have hrow := row_of HCT.out.rE (w' := wq) (fun j _ => by rw [q1])
    rw [hve] at hrow
    have := cut_mid B o cs ty c.lg.base i xs.length vcap g lo (rowE xs) wq (by unfold Blk; rw [q1]; exact HCT.out.blk) HCT.out.c0 (by rw [HCT.out.c1, hve]) HCT.out.t1 hrow hbb hcl (by omega)
    rw [hk] at this
    exact this.mono fun _ _ ⟨he, hb, hr, hf⟩ => ⟨he, hb, hr, ⟨hf.os.trans q2, hf.tape.trans q3, hf.output.trans q4, by rw [← q1]; exact hf.size, fun k hk hn => by rw [hf.block k (by rw [q1]; exact hk) hn, q1]⟩⟩)
  have HVE := Lib.hid hve
  have HKX := Lib.hid (show k ≤ xs.length by omega)
  have HCUT := Lib.hid (show c.lg.cut i = ⟨c.lg.base, c.lg.es.take k⟩ by unfold Lg.cut; rw [if_neg (by omega), hk])
  have HCOK := Lib.hid (show (c.lg.cut i).Ok from HCT.out.ok.1.cut (by unfold MI; omega))
  clear hlast hbb hve hk
  go_region_with ((go_at_call 89; refine (HRS.out _ (by exact rfl) (by exact rfl) (by exact rfl) (by exact rfl)).mono ?_; rintro e w3 ⟨rfl, hb1, hr1, hf1⟩; have HBw := Lib.hid hb1; have HR1 := Lib.hid hr1; have HF1 := Lib.hid hf1; clear hb1 hr1 hf1))
  have HC3 := Lib.hid (HCT.out.cutm HVE.out HBw.out HR1.out HF1.out HKX.out HCUT.out HCOK.out)
  have HBL := Lib.hid (show Dk.Fr (CtF B ve vs3) w w3 from (Dk.Fr.below HB.out).trans HF1.out (fun j hj => .inl (ctf_e j (by rw [HVE.out]; simpa [Value.ownBlock] using hj))))
  have HSUB := Lib.hid (show ∀ j ∈ CtF B (.slice (some ⟨g, 0, none⟩) k vcap) vs3, j ∈ CtF B ve vs3 ∨ w.heap.size ≤ j from ctf_sub (fun j h => .inl (by rw [HVE.out]; exact h)) (fun _ h => .inl h))
  clear d2 hwa
  obtain ⟨c3, hc3⟩ : ∃ c3 : Ct, Ct.mk (c.lg.cut i) c.segs = c3 := ⟨_, rfl⟩
  rw [hc3] at HC3
  obtain ⟨SZ, hSZ0⟩ : ∃ SZ : Nat, S.size = SZ := ⟨_, rfl⟩
  have hz0 : SZ ≤ 1099511627776 := by rw [← hSZ0]; exact hz
  have HS3 := Lib.hid (show c3.segs = L ++ [S] by rw [← hc3]; exact HS.out)
  have HSZ0 := Lib.hid hSZ0
  have HRES := Lib.hid (show (Ct.mk c3.lg (addSz (8 + n) c3.segs)) = ⟨c.lg.cut i, addSz (8 + n) c.segs⟩ by rw [← hc3])
  clear hc3 hSZ0 hz
  obtain ⟨q, cp, hvq⟩ := HC3.out.seg_form HS3.out
  have HRS := Lib.hid HC3.out.rS
  obtain ⟨m, hm⟩ : ∃ m, L.length + 1 = m := ⟨_, rfl⟩
  rw [hm] at hvq
  obtain ⟨pp, hpp⟩ : ∃ pp, (m - 1) * 3 = pp := ⟨_, rfl⟩
  have HLS := Lib.hid (lastSeg_any B o q m cp _ ty w3 HC3.out.blk (by rw [HC3.out.c2, hvq]) (by omega) (by omega))
  rw [hpp] at HLS
  have HQ := Lib.hid (show vs3.ownBlock = some q by rw [hvq]; rfl)
  have HRW := Lib.hid (show w3.ownsRow lo 69 3 (.slice (some ⟨q, 0, none⟩) m cp) m (rowS (L ++ [S])) from by
    have := HC3.out.rS
    rw [HS3.out, hvq] at this
    have hlen : (L ++ [S]).length = m := by simp; omega
    rwa [hlen] at this)
  have HSZ := Lib.hid ((HC3.out.sized HS3.out hvq hm.symm (8 + n)))
  have HM := Lib.hid hm
  have HQL := Lib.hid (show lo ≤ q from (row_lo HC3.out.rS q HQ.out).1)
  have HFIN := Lib.hid (show ∀ w4 : World, Still w3 w4 → ∃ S', ContS lo B o ty S' (w4.setCell ⟨q, pp + 2, none⟩ (.int .i64 (((SZ : Nat) : Int) + (8 + (n : Int))))) ⟨c3.lg, addSz (8 + n) c3.segs⟩ ∧ Dk.Fr (CtF B ve vs3) w (w4.setCell ⟨q, pp + 2, none⟩ (.int .i64 (((SZ : Nat) : Int) + (8 + (n : Int))))) ∧ ∀ j ∈ S', j ∈ CtF B ve vs3 ∨ w.heap.size ≤ j from fun w4 hst => by
    rw [← hpp]
    have hc4 := HC3.out.of (w' := w4) (fun i _ => by rw [hst.1])
    have h4 := hc4.sized HS3.out hvq hm.symm (8 + n)
    have ez : ((S.size + (8 + n) : Nat) : Int) = ((SZ : Nat) : Int) + (8 + (n : Int)) := by rw [HSZ0.out]; omega
    rw [ez] at h4
    exact ⟨_, ⟨hloB, _, _, _, _, h4, rfl⟩, (HBL.out.same (fr_still hst)).setCell _ (HSUB.out q (by simp [CtF, HQ.out])) _, HSUB.out⟩)
  have s2 := Lib.hid (show ∀ w4 : World, Still w3 w4 → w4.cell? ⟨q, pp + 2, none⟩ = some (.int .i64 ((SZ : Nat) : Int)) from fun w4 hst => by
    rw [← hpp]
    have := seg_cell (row_of HRW.out (w' := w4) (fun i _ => by rw [hst.1])) hm.symm 2 _ rfl
    rw [HSZ0.out] at this
    exact this)
  have f2 := Lib.hid (show ∀ w4 : World, Still w3 w4 → w4.frozen? ⟨q, pp + 2, none⟩ = false from fun w4 hst => by rw [← hpp]; exact row_free (row_of HRW.out (w' := w4) (fun i _ => by rw [hst.1])) rfl _)
  clear hm hvq hpp
  go_wp2_with (go_at_call 38; refine HLS.out.mono ?_; rintro e w4 ⟨rfl, hst⟩; have y1 := s2.out w4 hst; have y2 := f2.out w4 hst; have HST := Lib.hid hst; clear hst)
  go_ret
  exact ⟨rfl, by rw [← HRES.out]; exact HFIN.out _ HST.out⟩
end Go.Proofs.YtgmpdifggaggdaaGreatDoor.Wl

namespace Go.Proofs.YtgmpdifggaggdaaGreatDoor.Wl
open Go.RowKit Go.Proofs.YtgmpdifggaggdaaGreatDoor.Fld
set_option linter.unusedVariables false

set_option maxRecDepth 100000 in
set_option maxHeartbeats 6400000 in
theorem acc_entry_no {lo B o : Nat} {ty : TypeId} {c : Ct} (num : Nat) (A : Option Addr) (n cap : Nat) (b : List Int) (w : World) (e : E) (h : ContX lo B o ty w c) (hlo : lo ≤ w.heap.size) (hr : Rd w A n b) (hA : A = none → cap = 0) (hn : n ≤ 65536) (hd : dec b = some (.entry e)) (hie : e.idx ≠ c.lg.last + 1) :
    Calls Tryz.prog 66 #[.pointer (some ⟨B, o, none⟩), .int .i64 (num : Int), .bool false, .slice A n cap] w fun e w' => e = .returned (.bool false) ∧ Below w.heap.size w w' := by
  have HD := Lib.hid (decode_any A n cap b w hr hA (by omega))
  have hok := dec_ok hr.2.2.1 hd
  clear hr hA
  have hloB := h.1
  obtain ⟨ei, et, ek, d⟩ := e
  obtain ⟨k1, k2, k3, k4, k5, k6⟩ := hok
  simp only at k1 k2 k3 k4 k5 k6 hie
  unfold MI at k2 k3
  go_enter Tryz.func66, Tryz.ntmps66
  go_wp2_with fail
  refine HD.out.mono ?_
  rintro e w1 ⟨v, A2, cap2, rfl, _, h0, hb⟩
  obtain ⟨hv, hrd, hA2⟩ := h0 _ hd
  subst hv
  rw [hd]
  simp only [Option.isSome_some]
  unfold chV
  simp only [dataOf] at hrd
  obtain ⟨dl, hdl⟩ : ∃ dl, d.length = dl := ⟨_, rfl⟩
  have HDL := Lib.hid hdl
  simp only
  rw [hdl] at hrd ⊢
  have HB := Lib.hid (hb.trans ((alloc_below' w1 (.cells #[.int .i64 1, .int .i64 0, .int .i64 0, .int .i64 (ei : Int), .int .i64 (et : Int), .int .i64 (ek : Int), .slice A2 dl cap2] 124)).mono hb.size))
  have HC := Lib.hid ((h.below hb).below (alloc_below' w1 (.cells #[.int .i64 1, .int .i64 0, .int .i64 0, .int .i64 (ei : Int), .int .i64 (et : Int), .int .i64 (ek : Int), .slice A2 dl cap2] 124)))
  have HH := Lib.hid (Blk.new w1 #[.int .i64 1, .int .i64 0, .int .i64 0, .int .i64 (ei : Int), .int .i64 (et : Int), .int .i64 (ek : Int), .slice A2 dl cap2] 124)
  have HRD := Lib.hid (hrd.below (alloc_below' w1 (.cells #[.int .i64 1, .int .i64 0, .int .i64 0, .int .i64 (ei : Int), .int .i64 (et : Int), .int .i64 (ek : Int), .slice A2 dl cap2] 124)))
  have HA2 := Lib.hid hA2
  clear h0 hb hd h hrd hA2 hdl
  obtain ⟨_, cs, ve, vs3, xs, hct⟩ := HC.out
  have HCT := Lib.hid hct
  clear hct
  go_wp2_with fail
  obtain ⟨wa, hwa⟩ : ∃ wa, w1.alloc (.cells #[.int .i64 1, .int .i64 0, .int .i64 0, .int .i64 (ei : Int), .int .i64 (et : Int), .int .i64 (ek : Int), .slice A2 dl cap2] 124) = wa := ⟨_, rfl⟩
  rw [hwa] at HB HCT HH HRD ⊢
  have d3 := HH.out.cell 3 _ rfl
  have d4 := HH.out.cell 4 _ rfl
  have d5 := HH.out.cell 5 _ rfl
  have d6 := HH.out.cell 6 _ rfl
  obtain ⟨VA, vcap, hve, _⟩ := row_slice HCT.out.rE
  have hlast : c.lg.last = c.lg.base + xs.length := by unfold Lg.last; rw [HCT.out.es]; simp
  have hbb : c.lg.base + xs.length ≤ 4611686018427387904 := by have := HCT.out.ok.1.1; unfold MI at this; omega
  have HL := Lib.hid (show ∀ k, Calls Tryz.prog 24 #[.pointer (some ⟨B, o, none⟩)] (wa.drewN k) fun e w'' => e = .returned (.int .i64 ((c.lg.last : Nat) : Int)) ∧ ∃ m, w'' = wa.drewN m from fun k => by
    rw [hlast]
    exact (last_dr B o cs ty c.lg.base xs.length vcap VA _ (HCT.out.blk.drewN k) HCT.out.c0 (by rw [HCT.out.c1, hve]) hbb).mono fun _ _ ⟨he, m, hw⟩ => ⟨he, k + m, by rw [hw, World.drewN_drewN]⟩)
  have hLM : c.lg.last ≤ 4611686018427387904 := by rw [hlast]; exact hbb
  clear hve hlast hbb hwa
  obtain ⟨LL, hLL⟩ : ∃ LL, c.lg.last = LL := ⟨_, rfl⟩
  rw [hLL] at HL hLM hie
  have HLL := Lib.hid hLL
  clear hLL
  have e2 : IntKind.i64.wrap ((LL : Int) + 1) = (LL : Int) + 1 := wrap_in' _ (by omega) (by omega)
  have j1 : ((ei : Int) == (LL : Int) + 1) = false := by rw [beq_eq_false_iff_ne]; omega
  clear hie
  go_quiet ((go_at_call 24; exact HL.out _))
  go_wp2
  go_ret
  exact ⟨rfl, HB.out.trans ((below_drewN' _ _).mono HB.out.size)⟩
end Go.Proofs.YtgmpdifggaggdaaGreatDoor.Wl
