/-
  Several texts in one: Layer 6: the closure of creating in the program: a segment more, with its HEAD, synced. Conditions: the Wal and its disk lie in memory (WmX), the closure's variables hold the number and the Wal. Layer 6: segmentNumbers in the program. Conditions: the disk lies in memory as it was made; the library's tables are as they were. Layer 6: removeFresh in the program: what a repair that was broken off has left is unlinked. Conditions: the Wal and its disk lie in memory (WmX). The plain mathematics of layer 6: which segments a scan has found, and how large the last one is. No condition but those that each theorem states.
-/
import Derived.Test.YtgmpdifggaggdaaGreatDoorJWalMk
import Derived.Deep.RegionHeld3
import Derived.Deep.RegionLaw
import Derived.Deep.RegionWith
import Derived.Deep.CutRange
import Derived.Test.YtgmpdifggaggdaaGreatDoorJWalLog
import Derived.Test.YtgmpdifggaggdaaGreatDoorJWalNm
import Derived.Test.YtgmpdifggaggdaaGreatDoorJDiskRead
import Derived.Test.YtgmpdifggaggdaaGreatDoorJWalAccO
namespace Go.Proofs.YtgmpdifggaggdaaGreatDoor.Wl
open Go.RowKit Go.Proofs.YtgmpdifggaggdaaGreatDoor.Fld
set_option linter.unusedVariables false

theorem op_of {ops : Array Oper} {i : Nat} {o : Oper} {l : List Oper} (h : ops.toList.drop i = o :: l) : ops[i]? = some o := by
  have h1 : (ops.toList.drop i)[0]? = ops.toList[i]? := by rw [List.getElem?_drop, Nat.add_zero]
  rw [h] at h1
  rw [← Array.getElem?_toList]
  exact h1.symm
theorem takeL {P : Program} {ops : Array Oper} {Q : Exit → Act → World → Prop} {md : Region.Mode} {S : World → Prop} {i : Nat} {oi : Oper} {l : List Oper} {v : Value} {fuel : Nat} {listed : Array Bool} {a : Act} {w : World} (hi : ops.toList.drop i = oi :: l)
    (hs : Region.noSelect ops = true) (hf : Region.free md ops listed i = true) (hr : (Region.ready md ops listed).contains i = true)
    (hQ : ∀ c a w, Q (.panic c) (a.put oi.dst v) w → Q (.panic c) a w) (hy : YieldsIf P ops S oi v a) (hS : S w)
    (h : wpAnyH P md ops Q S fuel (listed.setIfInBounds i true) (a.put oi.dst v) w) : wpAnyH P md ops Q S (fuel + 1) listed a w := wpAnyH_take (op_of hi) hs hf hr hQ hy hS h
theorem consL {P : Program} {ops : Array Oper} {Q : Exit → Act → World → Prop} {md : Region.Mode} {S : World → Prop} {fuel : Nat} {listed : Array Bool} {a : Act} {w : World} {i : Nat} {o : Oper} {l : List Oper} {rs : List Nat} (ho : ops.toList.drop i = o :: l)
    (h : ∀ K' : Act → World → Prop, Shut (∀ a w, S w → (S w → wpAnyH P md ops Q S fuel (listed.setIfInBounds i true) a w) → K' a w) → if Region.wanted o (yielded ops a.tmps) = true then Oper.wp P o a w K' Q else K' (a.put o.dst undef) w)
    (hs : AllReadyH P md ops Q S fuel listed a w rs) : AllReadyH P md ops Q S fuel listed a w (i :: rs) := AllReadyH.cons (op_of ho) h hs
theorem blk_fr3 {S : List Nat} {w w' : World} {B : Nat} {cs : Array Value} {ty : TypeId} (h : Blk w B cs ty) (hf : Dk.Fr S w w') (hn : B ∉ S) : Blk w' B cs ty := h.of (hf.block B h.lt hn)
theorem head_len (n i : Nat) (hn : n ≤ 1099511627777) (hi : i ≤ 1099511627777) : (Rc.recd (chC (.head n i))).length ≤ 65536 := by
  have h := enc_len [0, n, i] (by simp; omega)
  have e : (chC (.head n i)).length = (enc [0, n, i]).length := rfl
  rw [Rc.recd_len, e]
  simp only [List.length_cons, List.length_nil] at h
  omega
abbrev segC (n i s : Int) : Array Value := #[.int .i64 n, .int .i64 i, .int .i64 s]
set_option maxRecDepth 100000 in
set_option maxHeartbeats 3200000 in
theorem create1_any {lo W g b lim : Nat} {m : List Dk.Ent} {ve vs : Value} {xs : List EA} {w : World} {c : Ct} {t : Dk.St} (h : WmX lo W g b lim m ve vs xs w c t) (n : Nat) (hn1 : 1 ≤ n) (hn2 : n ≤ 99999999) (hl : c.segs.length ≤ 900000) (hm : t.fs.length ≤ 890000) (bn bw : Nat) (hbn : w.cell? ⟨bn, 0, none⟩ = some (.int .i64 (n : Int))) (hw : w.cell? ⟨bw, 0, none⟩ = some (.pointer (some ⟨W, 0, none⟩))) (hbF : bn ∉ WFt W g b m ve vs) (hbF2 : bw ∉ WFt W g b m ve vs) :
    Calls Tryz.prog 74 #[.pointer (some ⟨bn, 0, none⟩), .pointer (some ⟨bw, 0, none⟩)] w (StpI lo W g b lim (WFt W g b m ve vs) w (spCreate n c t)) := by
  have HX := Lib.hid h
  obtain ⟨EA0, ec0, hve, _⟩ := row_slice h.ct.rE
  have hlen : c.lg.es.length = xs.length := by rw [h.ct.es]; simp
  have hle := h.ct.ok.1.1
  unfold Lg.last MI at hle
  have HLA := Lib.hid (fun (w' : World) (hb : Below w.heap.size w w') => show Calls Tryz.prog 24 #[.pointer (some ⟨W, 3, none⟩)] w' (fun e w2 => e = .returned (.int .i64 ((c.lg.base + xs.length : Nat) : Int)) ∧ Still w' w2) from last_any W 3 _ _ c.lg.base xs.length ec0 EA0 w' (h.below hb).ct.blk rfl (show (wcs g lim c ve vs)[3 + 1]? = some (.slice EA0 xs.length ec0) from by rw [← hve]; rfl) (by omega))
  obtain ⟨B0, hB0⟩ : ∃ B0 : Nat, c.lg.base + xs.length = B0 := ⟨_, rfl⟩
  have HB0 := Lib.hid (show c.lg.last = B0 by unfold Lg.last; rw [hlen]; exact hB0)
  have hb0 : B0 ≤ 1099511627776 := by omega
  rw [hB0] at HLA
  have e1 : IntKind.i64.wrap ((B0 : Int) + 1) = (B0 : Int) + 1 := wrap_in _ (by omega) (by omega)
  clear h hve hlen hle hB0
  go_enter Tryz.func74, Tryz.ntmps74
  go_upto_region 1 with fail
  go_cut [3] from 4 to 11 (fun sv wx => ∃ B, sv = .pointer (some ⟨B, 0, none⟩) ∧ Blk wx B (segC n ((B0 : Int) + 1) 0) 69 ∧ Below w.heap.size w wx ∧ w.heap.size ≤ B)
  case first =>
    have HB0 := Lib.hid (show Below w.heap.size w w.drew from (Below.refl _ _).drew)
    refine wp_region_noPanic ?_
    refine wp_region_held_drew (S := (fun w' => w'.cell? ⟨bn, 0, none⟩ = some (.int .i64 (n : Int)) ∧ w'.cell? ⟨bw, 0, none⟩ = some (.pointer (some ⟨W, 0, none⟩)))) (by kernel_rfl) ?_ (fun hHeld => ?_)
    · exact ⟨hbn, hw⟩
    refine takeL (i := 0) (v := ?_) rfl (by kernel_rfl) (by kernel_rfl) (by kernel_rfl) (fun _ _ _ h => h) (Or.inl ⟨by rfl, ?_⟩) (by assumption) ?_
    rotate_left
    · intro w' hSw
      (try dsimp only at hSw)
      go_simp
      first | done | with_reducible rfl
    simp only [Act.put, List.setIfInBounds_toArray, List.set_cons_zero, List.set_cons_succ]
    refine takeL (i := 1) (v := ?_) rfl (by kernel_rfl) (by kernel_rfl) (by kernel_rfl) (fun _ _ _ h => h) (Or.inl ⟨by rfl, ?_⟩) (by assumption) ?_
    rotate_left
    · intro w' hSw
      (try dsimp only at hSw)
      go_simp
      first | done | with_reducible rfl
    simp only [Act.put, List.setIfInBounds_toArray, List.set_cons_zero, List.set_cons_succ]
    refine takeL (i := 2) (v := ?_) rfl (by kernel_rfl) (by kernel_rfl) (by kernel_rfl) (fun _ _ _ h => h) (Or.inl ⟨by rfl, ?_⟩) (by assumption) ?_
    rotate_left
    · intro w' hSw
      (try dsimp only at hSw)
      go_simp
      first | done | with_reducible rfl
    simp only [Act.put, List.setIfInBounds_toArray, List.set_cons_zero, List.set_cons_succ]
    refine takeL (i := 3) (v := ?_) rfl (by kernel_rfl) (by kernel_rfl) (by kernel_rfl) (fun _ _ _ h => h) (Or.inl ⟨by rfl, ?_⟩) (by assumption) ?_
    rotate_left
    · intro w' hSw
      (try dsimp only at hSw)
      go_simp
      first | done | with_reducible rfl
    simp only [Act.put, List.setIfInBounds_toArray, List.set_cons_zero, List.set_cons_succ]
    refine takeL (i := 4) (v := ?_) rfl (by kernel_rfl) (by kernel_rfl) (by kernel_rfl) (fun _ _ _ h => h) (Or.inl ⟨by rfl, ?_⟩) (by assumption) ?_
    rotate_left
    · intro w' hSw
      (try dsimp only at hSw)
      go_simp
      first | done | with_reducible rfl
    simp only [Act.put, List.setIfInBounds_toArray, List.set_cons_zero, List.set_cons_succ]
    refine wpAnyH_ready (rs := [5, 8]) (by kernel_rfl) (by simp) ?_
    refine consL rfl (fun K hK => ?_) (consL rfl (fun K hK => ?_) AllReadyH.nil)
    · go_simp
      go_at_call 24
      refine (HLA.out _ (by exact HB0.out)).mono ?_
      rintro e w1 ⟨rfl, hst⟩
      have hb1 := still_below hst
      clear hst
      have HB1 := Lib.hid (show Below w.heap.size w w1 from HB0.out.trans (hb1.mono HB0.out.size))
      have s1_0 := (HB1.out.cell (lt_of_cell hbn)).trans hbn
      have s1_1 := (HB1.out.cell (lt_of_cell hw)).trans hw
      clear hb1
      refine hK.out _ _ ?_ (fun hHeld1 => ?_)
      · first | exact ⟨by assumption, by assumption⟩ | go_keep
      clear hK K
      try simp only [Act.put, List.setIfInBounds_toArray, List.set_cons_zero, List.set_cons_succ]
      refine takeL (i := 6) (v := ?_) rfl (by kernel_rfl) (by kernel_rfl) (by kernel_rfl) (fun _ _ _ h => h) (Or.inl ⟨by rfl, ?_⟩) (by assumption) ?_
      rotate_left
      · intro w' hSw
        (try dsimp only at hSw)
        go_simp
        first | done | with_reducible rfl
      simp only [Act.put, List.setIfInBounds_toArray, List.set_cons_zero, List.set_cons_succ]
      refine takeL (i := 7) (v := ?_) rfl (by kernel_rfl) (by kernel_rfl) (by kernel_rfl) (fun _ _ _ h => h) (Or.inl ⟨by rfl, ?_⟩) (by assumption) ?_
      rotate_left
      · intro w' hSw
        (try dsimp only at hSw)
        go_simp
        first | done | with_reducible rfl
      simp only [Act.put, List.setIfInBounds_toArray, List.set_cons_zero, List.set_cons_succ]
      refine wpAnyH_ready (rs := [8]) (by kernel_rfl) (by simp) ?_
      refine consL rfl (fun K hK => ?_) AllReadyH.nil
      have HB2 := Lib.hid (show Below w.heap.size w (w1.alloc (.cells #[.int .i64 0, .int .i64 0, .int .i64 0] 69)) from HB1.out.alloc HB1.out.size _)
      have HK2 := Lib.hid (show Blk (w1.alloc (.cells #[.int .i64 0, .int .i64 0, .int .i64 0] 69)) w1.heap.size #[.int .i64 0, .int .i64 0, .int .i64 0] 69 from Blk.new w1 #[.int .i64 0, .int .i64 0, .int .i64 0] 69)
      have s2_0 := (HB2.out.cell (lt_of_cell hbn)).trans hbn
      have s2_1 := (HB2.out.cell (lt_of_cell hw)).trans hw
      go_simp
      refine hK.out _ _ ?_ (fun hHeld2 => ?_)
      · first | exact ⟨by assumption, by assumption⟩ | go_keep
      clear hK K
      try simp only [Act.put, List.setIfInBounds_toArray, List.set_cons_zero, List.set_cons_succ]
      have y0 := HK2.out.cell 0 (.int .i64 0) rfl
      have y1 := HK2.out.cell 1 (.int .i64 0) rfl
      have y2 := HK2.out.cell 2 (.int .i64 0) rfl
      have z0 := HK2.out.free 0
      have z1 := HK2.out.free 1
      have z2 := HK2.out.free 2
      have HLT := Lib.hid (show w.heap.size ≤ w1.heap.size from HB1.out.size)
      have HBS := Lib.hid (show Below w.heap.size w ((((w1.alloc (.cells #[.int .i64 0, .int .i64 0, .int .i64 0] 69)).setCell ⟨w1.heap.size, 0, none⟩ (.int .i64 (n : Int))).setCell ⟨w1.heap.size, 1, none⟩ (.int .i64 ((B0 : Int) + 1))).setCell ⟨w1.heap.size, 2, none⟩ (.int .i64 0)) from ((HB2.out.setCell (p := ⟨w1.heap.size, 0, none⟩) HLT.out _).setCell (p := ⟨w1.heap.size, 1, none⟩) HLT.out _).setCell (p := ⟨w1.heap.size, 2, none⟩) HLT.out _)
      have HKS := Lib.hid (((HK2.out.set 0 (.int .i64 (n : Int)) (by simp)).set 1 (.int .i64 ((B0 : Int) + 1)) (by simp)).set 2 (.int .i64 0) (by simp))
      have s3_0 := (HBS.out.cell (lt_of_cell hbn)).trans hbn
      have s3_1 := (HBS.out.cell (lt_of_cell hw)).trans hw
      refine wpAnyH_ready (rs := [9]) (by kernel_rfl) (by simp) ?_
      refine consL rfl (fun K hK => ?_) AllReadyH.nil
      go_simp
      refine hK.out _ _ ?_ (fun hHeld3 => ?_)
      · first | exact ⟨by assumption, by assumption⟩ | go_keep | exact ⟨s3_0, s3_1⟩
      clear hK K
      refine wpAnyH_done (by kernel_rfl) ?_ _
      refine NoPanic.normal ?_
      go_wp2_with fail
      go_meet
      first | exact ⟨_, rfl, HKS.out, HBS.out, HLT.out⟩ | exact ⟨_, rfl, Blk.new _ _ _, HB1.out.alloc HB1.out.size _, HLT.out⟩
    · have HB4 := Lib.hid (show Below w.heap.size w (w.drew.alloc (.cells #[.int .i64 0, .int .i64 0, .int .i64 0] 69)) from HB0.out.alloc HB0.out.size _)
      have HK4 := Lib.hid (show Blk (w.drew.alloc (.cells #[.int .i64 0, .int .i64 0, .int .i64 0] 69)) w.heap.size #[.int .i64 0, .int .i64 0, .int .i64 0] 69 from Blk.new w.drew #[.int .i64 0, .int .i64 0, .int .i64 0] 69)
      have s4_0 := (HB4.out.cell (lt_of_cell hbn)).trans hbn
      have s4_1 := (HB4.out.cell (lt_of_cell hw)).trans hw
      go_simp
      refine hK.out _ _ ?_ (fun hHeld4 => ?_)
      · first | exact ⟨by assumption, by assumption⟩ | go_keep
      clear hK K
      try simp only [Act.put, List.setIfInBounds_toArray, List.set_cons_zero, List.set_cons_succ]
      refine wpAnyH_ready (rs := [5]) (by kernel_rfl) (by simp) ?_
      refine consL rfl (fun K hK => ?_) AllReadyH.nil
      go_simp
      go_at_call 24
      refine (HLA.out _ (by exact HB4.out)).mono ?_
      rintro e w5 ⟨rfl, hst⟩
      have hb5 := still_below hst
      clear hst
      have HB5 := Lib.hid (show Below w.heap.size w w5 from HB4.out.trans (hb5.mono HB4.out.size))
      have HK5 := Lib.hid (HK4.out.below hb5)
      have s5_0 := (HB5.out.cell (lt_of_cell hbn)).trans hbn
      have s5_1 := (HB5.out.cell (lt_of_cell hw)).trans hw
      clear hb5
      refine hK.out _ _ ?_ (fun hHeld5 => ?_)
      · first | exact ⟨by assumption, by assumption⟩ | go_keep
      clear hK K
      try simp only [Act.put, List.setIfInBounds_toArray, List.set_cons_zero, List.set_cons_succ]
      refine takeL (i := 6) (v := ?_) rfl (by kernel_rfl) (by kernel_rfl) (by kernel_rfl) (fun _ _ _ h => h) (Or.inl ⟨by rfl, ?_⟩) (by assumption) ?_
      rotate_left
      · intro w' hSw
        (try dsimp only at hSw)
        go_simp
        first | done | with_reducible rfl
      simp only [Act.put, List.setIfInBounds_toArray, List.set_cons_zero, List.set_cons_succ]
      refine takeL (i := 7) (v := ?_) rfl (by kernel_rfl) (by kernel_rfl) (by kernel_rfl) (fun _ _ _ h => h) (Or.inl ⟨by rfl, ?_⟩) (by assumption) ?_
      rotate_left
      · intro w' hSw
        (try dsimp only at hSw)
        go_simp
        first | done | with_reducible rfl
      simp only [Act.put, List.setIfInBounds_toArray, List.set_cons_zero, List.set_cons_succ]
      have y0 := HK5.out.cell 0 (.int .i64 0) rfl
      have y1 := HK5.out.cell 1 (.int .i64 0) rfl
      have y2 := HK5.out.cell 2 (.int .i64 0) rfl
      have z0 := HK5.out.free 0
      have z1 := HK5.out.free 1
      have z2 := HK5.out.free 2
      have HLT := Lib.hid (show w.heap.size ≤ w.heap.size from Nat.le_refl _)
      have HBS := Lib.hid (show Below w.heap.size w (((w5.setCell ⟨w.heap.size, 0, none⟩ (.int .i64 (n : Int))).setCell ⟨w.heap.size, 1, none⟩ (.int .i64 ((B0 : Int) + 1))).setCell ⟨w.heap.size, 2, none⟩ (.int .i64 0)) from ((HB5.out.setCell (p := ⟨w.heap.size, 0, none⟩) HLT.out _).setCell (p := ⟨w.heap.size, 1, none⟩) HLT.out _).setCell (p := ⟨w.heap.size, 2, none⟩) HLT.out _)
      have HKS := Lib.hid (((HK5.out.set 0 (.int .i64 (n : Int)) (by simp)).set 1 (.int .i64 ((B0 : Int) + 1)) (by simp)).set 2 (.int .i64 0) (by simp))
      have s6_0 := (HBS.out.cell (lt_of_cell hbn)).trans hbn
      have s6_1 := (HBS.out.cell (lt_of_cell hw)).trans hw
      refine wpAnyH_ready (rs := [9]) (by kernel_rfl) (by simp) ?_
      refine consL rfl (fun K hK => ?_) AllReadyH.nil
      go_simp
      refine hK.out _ _ ?_ (fun hHeld6 => ?_)
      · first | exact ⟨by assumption, by assumption⟩ | go_keep | exact ⟨s6_0, s6_1⟩
      clear hK K
      refine wpAnyH_done (by kernel_rfl) ?_ _
      refine NoPanic.normal ?_
      go_wp2_with fail
      go_meet
      first | exact ⟨_, rfl, HKS.out, HBS.out, HLT.out⟩ | exact ⟨_, rfl, Blk.new _ _ _, HB0.out.alloc HB0.out.size _, HLT.out⟩
  case rest =>
    obtain ⟨B, rfl, hBk, hbx, hBlo⟩ := hcut
    obtain ⟨wa, rfl⟩ : ∃ wa, wa = wc := ⟨_, rfl⟩
    have HXa := Lib.hid (HX.out.below hbx)
    have HBK := Lib.hid hBk
    have HBX := Lib.hid hbx
    have HBL := Lib.hid hBlo
    obtain ⟨SA, sc, hvs, _⟩ := row_slice HXa.out.ct.rS
    have HVS := Lib.hid hvs
    have HLOa := Lib.hid (HXa.out.size)
    have hwa := (hbx.cell (lt_of_cell hw)).trans hw
    have hna := (hbx.cell (lt_of_cell hbn)).trans hbn
    have s0 := HXa.out.ct.blk.cell 5 (.slice SA c.segs.length sc) (by rw [← hvs]; rfl)
    have y0 := hBk.cell 0 (.int .i64 (n : Int)) rfl
    have y1 := hBk.cell 1 (.int .i64 ((B0 : Int) + 1)) rfl
    have y2 := hBk.cell 2 (.int .i64 0) rfl
    have HSEG := Lib.hid (show (c.segs ++ [(⟨n, c.lg.last + 1, 0⟩ : Sg)]).length = c.segs.length + 1 by simp)
    have HROWS := Lib.hid (show rowS (c.segs ++ [⟨n, c.lg.last + 1, 0⟩]) = rowS c.segs ++ [.int .i64 (n : Int), .int .i64 ((B0 : Int) + 1), .int .i64 0] by rw [rowS_append, HB0.out]; simp [rowS, Sg.cells])
    have HRA := Lib.hid (show (wa.alloc (.cells (segC n ((B0 : Int) + 1) 0) 69)).drew.ownsRow lo 69 3 (.slice SA c.segs.length sc) c.segs.length (rowS c.segs) by
      have h1 := HXa.out.ct.rS
      rw [hvs] at h1
      exact row_of h1 (fun j hj => Below.heap_alloc wa _ j (row_lo h1 j hj).2))
    have HNW := Lib.hid (show ∀ (j : Nat) (u : Value), [Value.int .i64 (n : Int), Value.int .i64 ((B0 : Int) + 1), Value.int .i64 0][j]? = some u → (wa.alloc (.cells (segC n ((B0 : Int) + 1) 0) 69)).drew.cell? (Addr.add ⟨wa.heap.size, 0, none⟩ j) = some u from fun j u hj => by
      show (wa.alloc (.cells (segC n ((B0 : Int) + 1) 0) 69)).cell? _ = _
      rw [add_at, World.cell?_alloc_mark]
      simpa using hj)
    have HLO2 := Lib.hid (show lo ≤ (wa.alloc (.cells (segC n ((B0 : Int) + 1) 0) 69)).drew.heap.size by have := HLOa.out; show lo ≤ (wa.alloc _).heap.size; simp; omega)
    have hal := alloc_below' wa (.cells (segC n ((B0 : Int) + 1) 0) 69)
    have a0 := (hal.cell (lt_of_cell hwa)).trans hwa
    have a1 := (hal.cell (lt_of_cell s0)).trans s0
    have a2 := (hal.cell (lt_of_cell y0)).trans y0
    have a3 := (hal.cell (lt_of_cell y1)).trans y1
    have a4 := (hal.cell (lt_of_cell y2)).trans y2
    have HXb := Lib.hid ((HXa.out.below hal).below (show Below _ _ (wa.alloc (.cells (segC n ((B0 : Int) + 1) 0) 69)).drew from (Below.refl _ _).drew))
    obtain ⟨inf, i1, i2, i3, i4⟩ := seg_info
    have HOB := Lib.hid (show bw ∉ (Value.slice SA c.segs.length sc).ownBlock.toList from fun hm => hbF2 (by rw [← HVS.out] at hm; unfold WFt CtF; simp only [List.mem_cons, List.mem_append]; exact .inr (.inr (.inr (.inr (.inr hm))))))
    have HBW := Lib.hid (show W ≠ B from fun e => by have := HX.out.ct.blk.lt; rw [e] at this; omega)
    have HWB := Lib.hid (show (⟨W, 5, none⟩ : Addr) ≠ ⟨bw, 0, none⟩ from fun e => hbF2 (by have : W = bw := congrArg Addr.block e; rw [← this]; unfold WFt CtF; simp))
    have HBO := Lib.hid (show B ∉ (Value.slice SA c.segs.length sc).ownBlock.toList from fun hm => by rw [Option.mem_toList, ← HVS.out] at hm; have := (row_lo HX.out.ct.rS B hm).2; omega)
    have HBK2 := Lib.hid (hBk.past (.cells (segC n ((B0 : Int) + 1) 0) 69))
    have HBb := Lib.hid (show Below w.heap.size w (wa.alloc (.cells (segC n ((B0 : Int) + 1) 0) 69)).drew from (hbx.trans (hal.mono hbx.size)).drew)
    clear hBk hbx hBlo hvs hal
    unfold segC at *
    go_upto_region 2 with fail
    go_cut [] from 12 to 23 (fun wx => ∃ v', WmX lo W g b lim m ve v' xs wx ⟨c.lg, c.segs ++ [⟨n, c.lg.last + 1, 0⟩]⟩ t ∧ Dk.Fr (WFt W g b m ve vs) w wx ∧ (∀ i ∈ WFt W g b m ve v', i ∈ WFt W g b m ve vs ∨ w.heap.size ≤ i) ∧ Blk wx B #[.int .i64 (n : Int), .int .i64 ((B0 : Int) + 1), .int .i64 0] 69 ∧ B ∉ WFt W g b m ve v')
    case first =>
      have HSW := Lib.hid (show (wa.alloc (.cells #[.int .i64 (n : Int), .int .i64 ((B0 : Int) + 1), .int .i64 0] 69)).drew.heap.size = wa.heap.size + 1 by show (wa.alloc _).heap.size = _; simp)
      refine wp_region_noPanic ?_
      refine wp_region_held_drew (S := (fun w' => w'.cell? ⟨bw, 0, none⟩ = some (.pointer (some ⟨W, 0, none⟩)) ∧ w'.cell? ⟨B, 0, none⟩ = some (.int .i64 (n : Int)) ∧ w'.cell? ⟨B, 1, none⟩ = some (.int .i64 ((B0 : Int) + 1)) ∧ w'.cell? ⟨B, 2, none⟩ = some (.int .i64 0))) (by kernel_rfl) ⟨hwa, y0, y1, y2⟩ (fun hHeld => ?_)
      refine takeL (i := 0) (v := ?_) rfl (by kernel_rfl) (by kernel_rfl) (by kernel_rfl) (fun _ _ _ h => h) (Or.inl ⟨by rfl, ?_⟩) (by assumption) ?_
      rotate_left
      · intro w' hSw
        (try dsimp only at hSw)
        go_simp
        first | done | with_reducible rfl
      simp only [Act.put, List.setIfInBounds_toArray, List.set_cons_zero, List.set_cons_succ]
      refine takeL (i := 1) (v := ?_) rfl (by kernel_rfl) (by kernel_rfl) (by kernel_rfl) (fun _ _ _ h => h) (Or.inl ⟨by rfl, ?_⟩) (by assumption) ?_
      rotate_left
      · intro w' hSw
        (try dsimp only at hSw)
        go_simp
        first | done | with_reducible rfl
      simp only [Act.put, List.setIfInBounds_toArray, List.set_cons_zero, List.set_cons_succ]
      refine takeL (i := 2) (v := ?_) rfl (by kernel_rfl) (by kernel_rfl) (by kernel_rfl) (fun _ _ _ h => h) (Or.inl ⟨by rfl, ?_⟩) (by assumption) ?_
      rotate_left
      · intro w' hSw
        (try dsimp only at hSw)
        go_simp
        first | done | with_reducible rfl
      simp only [Act.put, List.setIfInBounds_toArray, List.set_cons_zero, List.set_cons_succ]
      refine takeL (i := 3) (v := ?_) rfl (by kernel_rfl) (by kernel_rfl) (by kernel_rfl) (fun _ _ _ h => h) (Or.inl ⟨by rfl, ?_⟩) (by assumption) ?_
      rotate_left
      · intro w' hSw
        (try dsimp only at hSw)
        go_simp
        first | done | with_reducible rfl
      simp only [Act.put, List.setIfInBounds_toArray, List.set_cons_zero, List.set_cons_succ]
      refine takeL (i := 4) (v := ?_) rfl (by kernel_rfl) (by kernel_rfl) (by kernel_rfl) (fun _ _ _ h => h) (Or.inl ⟨by rfl, ?_⟩) (by assumption) ?_
      rotate_left
      · intro w' hSw
        (try dsimp only at hSw)
        go_simp
        first | done | with_reducible rfl
      simp only [Act.put, List.setIfInBounds_toArray, List.set_cons_zero, List.set_cons_succ]
      refine takeL (i := 6) (v := ?_) rfl (by kernel_rfl) (by kernel_rfl) (by kernel_rfl) (fun _ _ _ h => h) (Or.inl ⟨by rfl, ?_⟩) (by assumption) ?_
      rotate_left
      · intro w' hSw
        (try dsimp only at hSw)
        go_simp
        first | done | with_reducible rfl
      simp only [Act.put, List.setIfInBounds_toArray, List.set_cons_zero, List.set_cons_succ]
      refine wpAnyH_ready (rs := [5, 7]) (by kernel_rfl) (by simp) ?_
      refine consL rfl (fun K hK => ?_) (consL rfl (fun K hK => ?_) AllReadyH.nil)
      · go_simp
        refine hK.out _ _ ?_ (fun hHeld1 => ?_)
        · first | exact ⟨by assumption, by assumption, by assumption, by assumption⟩ | go_keep
        clear hK K
        try simp only [Act.put, List.setIfInBounds_toArray, List.set_cons_zero, List.set_cons_succ]
        refine wpAnyH_ready (rs := [7]) (by kernel_rfl) (by simp) ?_
        refine consL rfl (fun K hK => ?_) AllReadyH.nil
        go_simp
        refine hK.out _ _ ?_ (fun hHeld2 => ?_)
        · first | exact ⟨by assumption, by assumption, by assumption, by assumption⟩ | go_keep
        clear hK K
        try simp only [Act.put, List.setIfInBounds_toArray, List.set_cons_zero, List.set_cons_succ]
        refine wpAnyH_ready (rs := [8]) (by kernel_rfl) (by simp) ?_
        refine consL rfl (fun K hK => ?_) AllReadyH.nil
        refine step_append_row rfl _ _ 57 rfl 69 inf _ 3 24 Tryz.underlying57 i1 i2 i3 i4 rfl (by omega) lo (.slice SA c.segs.length sc) c.segs.length (rowS c.segs) rfl (by exact HRA.out) ⟨wa.heap.size, 0, none⟩ 1 1 [.int .i64 (n : Int), .int .i64 ((B0 : Int) + 1), .int .i64 0] rfl rfl (by exact HNW.out) (by simp [Value.oneCell']) (by unfold maxLen; omega) (by omega) (by exact HLO2.out) ?_
        intro v' w3 hr3 hg3 hat3
        obtain ⟨VA, vc, hvv, _⟩ := row_slice hr3
        subst hvv
        have HR3 := Lib.hid hr3
        have HG3 := Lib.hid hg3
        have HA3 := Lib.hid hat3
        have hfr3 := (Dk.Fr.refl (Value.slice SA c.segs.length sc).ownBlock.toList _).grown hg3 (fun i hi => .inl (by simp [hi]))
        have xw := hfr3.cell (show (wa.drew.alloc (.cells #[.int .i64 (n : Int), .int .i64 ((B0 : Int) + 1), .int .i64 0] 69)).cell? ⟨bw, 0, none⟩ = some (.pointer (some ⟨W, 0, none⟩)) from a0) HOB.out
        have xb := blk_fr3 (show Blk (wa.drew.alloc (.cells #[.int .i64 (n : Int), .int .i64 ((B0 : Int) + 1), .int .i64 0] 69)) B #[.int .i64 (n : Int), .int .i64 ((B0 : Int) + 1), .int .i64 0] 69 from HBK2.out) hfr3 HBO.out
        have x0 := xb.cell 0 (.int .i64 (n : Int)) rfl
        have x1 := xb.cell 1 (.int .i64 ((B0 : Int) + 1)) rfl
        have x2 := xb.cell 2 (.int .i64 0) rfl
        have hb3 := HXb.out.ct.blk.of (hg3.block W HXb.out.ct.blk.lt (by rw [← HVS.out]; exact (row_ne HXb.out.ct.rS HXb.out.ct.blk HXb.out.ct.t2).symm))
        have x5 := hb3.cell 5 _ rfl
        have f5 := hb3.free 5
        have HXBK := Lib.hid xb
        clear hr3 hg3 hat3 hb3 hfr3 xb
        refine hK.out _ _ ?_ (fun hHeld3 => ?_)
        · first | exact ⟨by assumption, by assumption, by assumption, by assumption⟩ | go_keep
        clear hK K
        try simp only [Act.put, List.setIfInBounds_toArray, List.set_cons_zero, List.set_cons_succ]
        refine takeL (i := 9) (v := ?_) rfl (by kernel_rfl) (by kernel_rfl) (by kernel_rfl) (fun _ _ _ h => h) (Or.inl ⟨by rfl, ?_⟩) (by assumption) ?_
        rotate_left
        · intro w' hSw
          (try dsimp only at hSw)
          go_simp
          first | done | with_reducible rfl
        simp only [Act.put, List.setIfInBounds_toArray, List.set_cons_zero, List.set_cons_succ]
        refine takeL (i := 10) (v := ?_) rfl (by kernel_rfl) (by kernel_rfl) (by kernel_rfl) (fun _ _ _ h => h) (Or.inl ⟨by rfl, ?_⟩) (by assumption) ?_
        rotate_left
        · intro w' hSw
          (try dsimp only at hSw)
          go_simp
          first | done | with_reducible rfl
        simp only [Act.put, List.setIfInBounds_toArray, List.set_cons_zero, List.set_cons_succ]
        refine takeL (i := 11) (v := ?_) rfl (by kernel_rfl) (by kernel_rfl) (by kernel_rfl) (fun _ _ _ h => h) (Or.inl ⟨by rfl, ?_⟩) (by assumption) ?_
        rotate_left
        · intro w' hSw
          (try dsimp only at hSw)
          go_simp
          first | done | with_reducible rfl
        simp only [Act.put, List.setIfInBounds_toArray, List.set_cons_zero, List.set_cons_succ]
        refine wpAnyH_ready (rs := [12]) (by kernel_rfl) (by simp) ?_
        refine consL rfl (fun K hK => ?_) AllReadyH.nil
        go_simp
        refine hK.out _ _ ?_ (fun hHeld4 => ?_)
        · exact ⟨(World.cell?_setCell_other (h := HWB.out) ..).trans xw, (World.cell?_setCell_other (h := fun e => HBW.out (congrArg Addr.block e)) ..).trans x0, (World.cell?_setCell_other (h := fun e => HBW.out (congrArg Addr.block e)) ..).trans x1, (World.cell?_setCell_other (h := fun e => HBW.out (congrArg Addr.block e)) ..).trans x2⟩
        clear hK K
        refine wpAnyH_done (by kernel_rfl) ?_ _
        refine NoPanic.normal ?_
        go_wp2_with fail
        go_meet
        have h9 := HXb.out.seg n hn1 hn2 (v' := .slice VA (c.segs.length + 1) vc) (by rw [HROWS.out]; exact HR3.out) (by rw [HVS.out]; exact HG3.out) (by rw [HVS.out]; rcases HA3.out with h | h; (exact .inl h); (exact .inr ⟨_, h, Nat.le_refl _⟩))
        exact ⟨_, h9.1, (Dk.Fr.below HBb.out).same h9.2.1, fun i hi => (h9.2.2 i hi).imp id (Nat.le_trans HBb.out.size), HXBK.out.far _ (fun e => HBW.out (show W = B from e)) _, fun hm => (h9.2.2 B hm).elim (fun h => by have := HX.out.lt B h; have := HBL.out; omega) (fun h => by have h8 := HBK.out.lt; have h7 := HSW.out; omega)⟩
      · go_simp
        refine hK.out _ _ ?_ (fun hHeld1 => ?_)
        · first | exact ⟨by assumption, by assumption, by assumption, by assumption⟩ | go_keep
        clear hK K
        try simp only [Act.put, List.setIfInBounds_toArray, List.set_cons_zero, List.set_cons_succ]
        refine wpAnyH_ready (rs := [5]) (by kernel_rfl) (by simp) ?_
        refine consL rfl (fun K hK => ?_) AllReadyH.nil
        go_simp
        refine hK.out _ _ ?_ (fun hHeld2 => ?_)
        · first | exact ⟨by assumption, by assumption, by assumption, by assumption⟩ | go_keep
        clear hK K
        try simp only [Act.put, List.setIfInBounds_toArray, List.set_cons_zero, List.set_cons_succ]
        refine wpAnyH_ready (rs := [8]) (by kernel_rfl) (by simp) ?_
        refine consL rfl (fun K hK => ?_) AllReadyH.nil
        refine step_append_row rfl _ _ 57 rfl 69 inf _ 3 24 Tryz.underlying57 i1 i2 i3 i4 rfl (by omega) lo (.slice SA c.segs.length sc) c.segs.length (rowS c.segs) rfl (by exact HRA.out) ⟨wa.heap.size, 0, none⟩ 1 1 [.int .i64 (n : Int), .int .i64 ((B0 : Int) + 1), .int .i64 0] rfl rfl (by exact HNW.out) (by simp [Value.oneCell']) (by unfold maxLen; omega) (by omega) (by exact HLO2.out) ?_
        intro v' w3 hr3 hg3 hat3
        obtain ⟨VA, vc, hvv, _⟩ := row_slice hr3
        subst hvv
        have HR3 := Lib.hid hr3
        have HG3 := Lib.hid hg3
        have HA3 := Lib.hid hat3
        have hfr3 := (Dk.Fr.refl (Value.slice SA c.segs.length sc).ownBlock.toList _).grown hg3 (fun i hi => .inl (by simp [hi]))
        have xw := hfr3.cell (show (wa.drew.alloc (.cells #[.int .i64 (n : Int), .int .i64 ((B0 : Int) + 1), .int .i64 0] 69)).cell? ⟨bw, 0, none⟩ = some (.pointer (some ⟨W, 0, none⟩)) from a0) HOB.out
        have xb := blk_fr3 (show Blk (wa.drew.alloc (.cells #[.int .i64 (n : Int), .int .i64 ((B0 : Int) + 1), .int .i64 0] 69)) B #[.int .i64 (n : Int), .int .i64 ((B0 : Int) + 1), .int .i64 0] 69 from HBK2.out) hfr3 HBO.out
        have x0 := xb.cell 0 (.int .i64 (n : Int)) rfl
        have x1 := xb.cell 1 (.int .i64 ((B0 : Int) + 1)) rfl
        have x2 := xb.cell 2 (.int .i64 0) rfl
        have hb3 := HXb.out.ct.blk.of (hg3.block W HXb.out.ct.blk.lt (by rw [← HVS.out]; exact (row_ne HXb.out.ct.rS HXb.out.ct.blk HXb.out.ct.t2).symm))
        have x5 := hb3.cell 5 _ rfl
        have f5 := hb3.free 5
        have HXBK := Lib.hid xb
        clear hr3 hg3 hat3 hb3 hfr3 xb
        refine hK.out _ _ ?_ (fun hHeld3 => ?_)
        · first | exact ⟨by assumption, by assumption, by assumption, by assumption⟩ | go_keep
        clear hK K
        try simp only [Act.put, List.setIfInBounds_toArray, List.set_cons_zero, List.set_cons_succ]
        refine takeL (i := 9) (v := ?_) rfl (by kernel_rfl) (by kernel_rfl) (by kernel_rfl) (fun _ _ _ h => h) (Or.inl ⟨by rfl, ?_⟩) (by assumption) ?_
        rotate_left
        · intro w' hSw
          (try dsimp only at hSw)
          go_simp
          first | done | with_reducible rfl
        simp only [Act.put, List.setIfInBounds_toArray, List.set_cons_zero, List.set_cons_succ]
        refine takeL (i := 10) (v := ?_) rfl (by kernel_rfl) (by kernel_rfl) (by kernel_rfl) (fun _ _ _ h => h) (Or.inl ⟨by rfl, ?_⟩) (by assumption) ?_
        rotate_left
        · intro w' hSw
          (try dsimp only at hSw)
          go_simp
          first | done | with_reducible rfl
        simp only [Act.put, List.setIfInBounds_toArray, List.set_cons_zero, List.set_cons_succ]
        refine takeL (i := 11) (v := ?_) rfl (by kernel_rfl) (by kernel_rfl) (by kernel_rfl) (fun _ _ _ h => h) (Or.inl ⟨by rfl, ?_⟩) (by assumption) ?_
        rotate_left
        · intro w' hSw
          (try dsimp only at hSw)
          go_simp
          first | done | with_reducible rfl
        simp only [Act.put, List.setIfInBounds_toArray, List.set_cons_zero, List.set_cons_succ]
        refine wpAnyH_ready (rs := [12]) (by kernel_rfl) (by simp) ?_
        refine consL rfl (fun K hK => ?_) AllReadyH.nil
        go_simp
        refine hK.out _ _ ?_ (fun hHeld4 => ?_)
        · exact ⟨(World.cell?_setCell_other (h := HWB.out) ..).trans xw, (World.cell?_setCell_other (h := fun e => HBW.out (congrArg Addr.block e)) ..).trans x0, (World.cell?_setCell_other (h := fun e => HBW.out (congrArg Addr.block e)) ..).trans x1, (World.cell?_setCell_other (h := fun e => HBW.out (congrArg Addr.block e)) ..).trans x2⟩
        clear hK K
        refine wpAnyH_done (by kernel_rfl) ?_ _
        refine NoPanic.normal ?_
        go_wp2_with fail
        go_meet
        have h9 := HXb.out.seg n hn1 hn2 (v' := .slice VA (c.segs.length + 1) vc) (by rw [HROWS.out]; exact HR3.out) (by rw [HVS.out]; exact HG3.out) (by rw [HVS.out]; rcases HA3.out with h | h; (exact .inl h); (exact .inr ⟨_, h, Nat.le_refl _⟩))
        exact ⟨_, h9.1, (Dk.Fr.below HBb.out).same h9.2.1, fun i hi => (h9.2.2 i hi).imp id (Nat.le_trans HBb.out.size), HXBK.out.far _ (fun e => HBW.out (show W = B from e)) _, fun hm => (h9.2.2 B hm).elim (fun h => by have := HX.out.lt B h; have := HBL.out; omega) (fun h => by have h8 := HBK.out.lt; have h7 := HSW.out; omega)⟩
    case rest =>
      obtain ⟨v1, hX1, hF1, hS1, hB1, hBF⟩ := hcut
      have HBF := Lib.hid hBF
      have HX1 := Lib.hid hX1
      have HF1 := Lib.hid hF1
      have HS1 := Lib.hid hS1
      have HB1 := Lib.hid hB1
      have z1 := hB1.cell 0 (.int .i64 (n : Int)) rfl
      have z2 := hB1.cell 1 (.int .i64 ((B0 : Int) + 1)) rfl
      have z0 := hF1.cell hw hbF2
      have HR := Lib.hid (show spCreate n c t = spRun [spWrite (Rc.recd (chC (.head n (B0 + 1)))), spSync] ⟨c.lg, c.segs ++ [⟨n, c.lg.last + 1, 0⟩]⟩ t by unfold spCreate; rw [HB0.out])
      have HLEN := Lib.hid (head_len n (B0 + 1) (by omega) (by omega))
      have HHR := Lib.hid (fun (w' : World) => show Calls Tryz.prog 75 #[.int .i64 (n : Int), .int .i64 ((B0 : Int) + 1)] w' (Made w' (Rc.recd (chC (.head n (B0 + 1))))) from by
        have := headRecord_any n (B0 + 1) w' (by omega) (by omega)
        rwa [show ((B0 + 1 : Nat) : Int) = (B0 : Int) + 1 by omega] at this)
      have HWF := Lib.hid (show bw ∉ WFt W g b m ve v1 from out_of hbF2 hw hS1)
      have HK := Lib.hid (show ∀ w', Below wc.heap.size wc w' → w'.cell? ⟨bw, 0, none⟩ = some (.pointer (some ⟨W, 0, none⟩)) ∧ w'.cell? ⟨B, 0, none⟩ = some (.int .i64 (n : Int)) ∧ w'.cell? ⟨B, 1, none⟩ = some (.int .i64 ((B0 : Int) + 1)) from fun w' hb => ⟨(hb.cell (lt_of_cell z0)).trans z0, (hb.cell (lt_of_cell z1)).trans z1, (hb.cell (lt_of_cell z2)).trans z2⟩)
      have HSG := Lib.hid (show (c.segs ++ [(⟨n, c.lg.last + 1, 0⟩ : Sg)]) = c.segs ++ [⟨n, c.lg.last + 1, 0⟩] from rfl)
      clear hX1 hF1 hS1 hB1 hBF
      have HZ := Lib.hid (show w.heap.size ≤ wc.heap.size from HF1.out.size)
      have HOUT := Lib.hid (show ∀ i, wc.heap.size ≤ i → i ∉ WFt W g b m ve v1 from fun i hi hm => by have := HX1.out.lt i hm; omega)
      go_wp2_with fail
      go_region_held3 (fun w' => w'.cell? ⟨bw, 0, none⟩ = some (.pointer (some ⟨W, 0, none⟩)) ∧ w'.cell? ⟨B, 0, none⟩ = some (.int .i64 (n : Int)) ∧ w'.cell? ⟨B, 1, none⟩ = some (.int .i64 ((B0 : Int) + 1))) (first | exact ⟨by assumption, by assumption, by assumption⟩ | go_keep) (first
        | (go_at_call 75; refine (HHR.out _).mono ?_; rintro e w5 ⟨v5, rfl, hO5⟩; have HB5 := Lib.hid (show Below wc.heap.size wc w5 from (by first | exact hO5.1 | exact (Below.refl _ _).drew.trans hO5.1)); have HO5 := Lib.hid hO5; obtain ⟨A5, c5, rfl, hs5, ha5⟩ := hO5.sl _ rfl; have HSL5 := Lib.hid hs5; have HA5 := Lib.hid ha5; obtain ⟨q0, q1, q2⟩ := HK.out w5 HB5.out; clear hO5 hs5 ha5)
        | (go_at_call 51; refine (writing_any W A5 _ c5 _).mono ?_; rintro e w6 ⟨bw6, bb6, rfl, hc6, hd6, hl6, hl6', hb6⟩; have HB6 := Lib.hid (HB5.out.trans (hb6.mono HB5.out.size)); have HC6 := Lib.hid hc6; have HD6 := Lib.hid hd6; have HL6 := Lib.hid hl6; have HL6' := Lib.hid hl6'; have HRD6 := Lib.hid (Rd.below HSL5.out.1 hb6); obtain ⟨r0, r1, r2⟩ := HK.out w6 HB6.out; unfold Fv.val writeFv; clear hc6 hd6 hl6 hl6' hb6)
        | (go_at_call 76; refine (syncing_any W _).mono ?_; rintro e w7 ⟨bw7, rfl, hc7, hl7, hb7⟩; have HB7 := Lib.hid (HB6.out.trans (hb7.mono HB6.out.size)); have HC7 := Lib.hid hc7; have HL7 := Lib.hid hl7; have HRD7 := Lib.hid (Rd.below HRD6.out hb7); have HC67 := Lib.hid ((hb7.cell (lt_of_cell HC6.out)).trans HC6.out); have HD67 := Lib.hid ((hb7.cell (lt_of_cell HD6.out)).trans HD6.out); obtain ⟨p0, p1, p2⟩ := HK.out w7 HB7.out; unfold Fv.val syncFv; clear hc7 hl7 hb7)
        | (go_at_call 15; refine (wsrun_any (F := WFt W g b m ve v1) (w := w7.alloc (.cells #[(writeFv bw6 bb6).val, (syncFv bw7).val] 78)) ⟨m, ve, v1, xs, HX1.out.below (HB7.out.alloc HB7.out.size _), rfl⟩ (L := c.segs) (S := ⟨n, c.lg.last + 1, 0⟩) rfl hl (Nat.zero_le _) hm w7.heap.size bw6 bb6 bw7 A5 _ c5 _ ((Blk.new w7 _ _).cell 0 _ rfl) ((Blk.new w7 _ _).cell 1 _ rfl) (((alloc_below' w7 _).cell (lt_of_cell HC67.out)).trans HC67.out) (((alloc_below' w7 _).cell (lt_of_cell HD67.out)).trans HD67.out) (((alloc_below' w7 _).cell (lt_of_cell HC7.out)).trans HC7.out) (HRD7.out.below (alloc_below' w7 _)) HSL5.out.2.2.2.1 HLEN.out (fun a ha => HOUT.out _ (show wc.heap.size ≤ a.block from HA5.out a ha)) (HOUT.out _ HB7.out.size) (HOUT.out _ (Nat.le_trans HB5.out.size HL6.out)) (HOUT.out _ (Nat.le_trans HB5.out.size HL6'.out)) (HOUT.out _ (Nat.le_trans HB6.out.size HL7.out))).mono ?_; rintro e w8 ⟨rfl, hQ⟩; have HQ := Lib.hid hQ; obtain ⟨F8, hW8, hF8, hS8⟩ := hQ; obtain ⟨t0, t1, t2⟩ := HK.out _ (HB7.out.alloc HB7.out.size (.cells #[(writeFv bw6 bb6).val, (syncFv bw7).val] 78)); have u0 := hF8.cell t0 HWF.out; have u1 := hF8.cell t1 HBF.out; have u2 := hF8.cell t2 HBF.out; clear hW8 hF8 hS8 t0 t1 t2))
      go_wp2_with fail
      go_ret
      rw [HR.out]
      exact StpI.then (HF1.out.same (Dk.Fr.below (HB7.out.alloc HB7.out.size _))) HS1.out ⟨rfl, HQ.out⟩
def createFv (bn bw : Nat) : Fv := ⟨74, #[], #[.pointer (some ⟨bn, 0, none⟩), .pointer (some ⟨bw, 0, none⟩)]⟩
theorem createFv_in (bn bw : Nat) : (createFv bn bw).In := fun a w => enters_of Tryz.func74 (by kernel_rfl) rfl a w
set_option maxRecDepth 100000 in
theorem creating_any (W : Nat) (n : Int) (w : World) : Calls Tryz.prog 49 #[.pointer (some ⟨W, 0, none⟩), .int .i64 n] w fun e w' => ∃ bn bw, e = .returned (createFv bn bw).val ∧ w'.cell? ⟨bw, 0, none⟩ = some (.pointer (some ⟨W, 0, none⟩)) ∧ w'.cell? ⟨bn, 0, none⟩ = some (.int .i64 n) ∧ w.heap.size ≤ bw ∧ w.heap.size ≤ bn ∧ Below w.heap.size w w' := by
  have h1 := Blk.new w #[.pointer (some ⟨W, 0, none⟩)] 33
  have h2 := Blk.new (w.alloc (.cells #[.pointer (some ⟨W, 0, none⟩)] 33)) #[.int .i64 n] 3
  have H1 := Lib.hid ((h1.past (.cells #[.int .i64 n] 3)).cell 0 _ rfl)
  have H2 := Lib.hid (show ((w.alloc (.cells #[.pointer (some ⟨W, 0, none⟩)] 33)).alloc (.cells #[.int .i64 n] 3)).cell? ⟨w.heap.size + 1, 0, none⟩ = some (.int .i64 n) by have h3 := h2.cell 0 _ rfl; rw [show (w.alloc (.cells #[.pointer (some ⟨W, 0, none⟩)] 33)).heap.size = w.heap.size + 1 by simp] at h3; exact h3)
  have HB := Lib.hid ((alloc_below' w (.cells #[.pointer (some ⟨W, 0, none⟩)] 33)).trans ((alloc_below' (w.alloc (.cells #[.pointer (some ⟨W, 0, none⟩)] 33)) (.cells #[.int .i64 n] 3)).mono (by simp)))
  have HZ := Lib.hid (Nat.le_succ w.heap.size)
  clear h1 h2
  go_enter Tryz.func49, Tryz.ntmps49
  go_wp2
  go_ret
  exact ⟨_, _, rfl, H1.out, H2.out, Nat.le_refl _, HZ.out, HB.out⟩
end Go.Proofs.YtgmpdifggaggdaaGreatDoor.Wl

namespace Go.Proofs.YtgmpdifggaggdaaGreatDoor.Wl
open Go.RowKit Go.Proofs.YtgmpdifggaggdaaGreatDoor.Fld
set_option linter.unusedVariables false

def NumsAre (w : World) (l : List Nat) (e : Ending) (w' : World) : Prop := ∃ A c, e = .returned (.slice A l.length c) ∧ Dk.RdI w' A l.length (ints l) ∧ (A = none → c = 0) ∧ l.length ≤ c ∧ (∀ a, A = some a → w.heap.size ≤ a.block) ∧ Below w.heap.size w w'
def SgR (w : World) (fs : List Dk.Fil) (n : Nat) (v i : Value) (wr : World) : Prop := ∃ k : Nat, k ≤ n ∧ i = .int .i64 (k : Int) ∧ wr.ownsRow w.heap.size 3 1 v (numsN (fs.take k)).length (vOf (numsN (fs.take k))) ∧ Below w.heap.size w wr
theorem row_below' {W W' : World} {base e s k : Nat} {v : Value} {vs : List Value} (h : W.ownsRow base e s v k vs) (hb : Below W.heap.size W W') : W'.ownsRow base e s v k vs := by
  obtain ⟨h1, h2⟩ := h
  refine ⟨h1, ?_⟩
  rcases h2 with h2 | ⟨g, cap, cur, e, h3, h4, h5⟩
  · exact .inl h2
  · exact .inr ⟨g, cap, cur, e, h3, (hb.block g (Array.getElem?_eq_some_iff.1 h4).1).trans h4, h5⟩
theorem row_base' {W : World} {base e s k : Nat} {v : Value} {vs : List Value} (h : W.ownsRow base e s v k vs) : ∀ r, v.ownBlock = some r → base ≤ r := by
  intro r hr
  rcases h.2 with ⟨rfl, _⟩ | ⟨g, cap, cur, rfl, hg, _⟩
  · simp [Value.ownBlock] at hr
  · simp [Value.ownBlock] at hr; omega
set_option maxRecDepth 100000 in
set_option maxHeartbeats 3200000 in
theorem segnums_any (g b : Nat) (m : List Dk.Ent) (t : Dk.St) (w : World) (h : Dk.Im w g b m t) (hB : Base w) (hm : t.fs.length ≤ 900000) :
    Calls Tryz.prog 46 #[.pointer (some ⟨g, 0, none⟩)] w (NumsAre w (numsN t.fs)) := by
  have HN := Lib.hid (Dk.names_any g b m t w h (by omega))
  have HBS := Lib.hid hB
  have HML := Lib.hid h.len
  have HFS := Lib.hid h.fs
  have hmn : m.length ≤ 900000 := by rw [h.len]; exact hm
  have hw0 : 0 < w.heap.size := by have := h.lt g (by simp); omega
  clear h hB
  go_enter Tryz.func46, Tryz.ntmps46
  go_wp2_with fail
  refine HN.out.mono ?_
  clear HN
  rintro e w1 ⟨A1, c1, rfl, hs1, _, hb1⟩
  have HS1 := Lib.hid hs1
  have HB1 := Lib.hid hb1
  have HS0 := Lib.hid (show SgR w1 t.fs m.length (.slice none 0 0) (.int .i64 0) w1 from ⟨0, Nat.zero_le _, rfl, World.ownsRow_nil _ _ _ _, Below.refl _ _⟩)
  clear hs1 hb1
  obtain ⟨n, hn⟩ : ∃ n, m.length = n := ⟨_, rfl⟩
  have HNN := Lib.hid hn
  rw [hn] at HS1 HS0 hmn ⊢
  clear hn
  go_wp2_with fail
  go_loopw [3, 11] (fun v i wr => SgR w1 t.fs n v i wr) (fun _ i _ => n - (intOf i).toNat)
  case atStart => exact HS0.out
  case round =>
    obtain ⟨k, hk, rfl, hrow, hb'⟩ := hrel
    have HROW := Lib.hid hrow
    have HB := Lib.hid (HB1.out.trans (hb'.mono HB1.out.size))
    have HB' := Lib.hid hb'
    clear hrow hb'
    by_cases hlt : k < n
    · obtain ⟨lb, off, rfl, hcell⟩ := HS1.out.2.2 (by omega)
      have hc := (HB'.out.cell (lt_of_cell (hcell k hlt))).trans (hcell k hlt)
      clear hcell
      have hkm : k < m.length := by rw [HNN.out]; exact hlt
      have hkf : k < t.fs.length := by rw [← HML.out]; exact hkm
      have hname : (m.map fun e => (⟨e.nm.toArray⟩ : ByteArray)).getD k ⟨#[]⟩ = ⟨t.fs[k].1.toArray⟩ := by
        have e1 : t.fs[k] = m[k].fil := by simp [HFS.out]
        rw [e1]
        simp [hkm, Dk.Ent.fil]
      rw [hname] at hc
      have HNO := Lib.hid (numberOf_any ⟨t.fs[k].1.toArray⟩ wr (HBS.out.below HB.out))
      rw [show (ByteArray.mk t.fs[k].1.toArray).data.toList = t.fs[k].1 by simp] at HNO
      have HYES := Lib.hid (numsN_yes t.fs k hkf)
      have HNOT := Lib.hid (numsN_no t.fs k hkf)
      have HLEN := Lib.hid (Nat.le_trans (numsN_len (t.fs.take k)) (by rw [List.length_take]; omega : (t.fs.take k).length ≤ 900000))
      clear hname
      generalize t.fs[k].1 = x at *
      have i1 : (k : Int) < (n : Int) := by omega
      go_wp2_with fail
      refine HNO.out.mono ?_
      clear HNO
      rintro e w2 ⟨z, rfl, hz, hb2⟩
      have HB2' := Lib.hid (HB'.out.trans (hb2.mono HB'.out.size))
      have HROW2 := Lib.hid (row_below' HROW.out hb2)
      have HZ := Lib.hid hz
      clear hb2 hz
      by_cases hp : 0 < numOf x
      · have hz1 := HZ.out hp
        subst hz1
        have j1 : decide (0 < numOf x) = true := decide_eq_true hp
        have HT := Lib.hid (HYES.out hp)
        generalize numOf x = N at *
        have hb3 := alloc_below w2 (.cells #[.int .i64 (N : Int)] 3)
        have HROW3 := Lib.hid (row_below' HROW2.out hb3)
        have HB3' := Lib.hid (HB2'.out.trans (hb3.mono HB2'.out.size))
        have HCELL := Lib.hid (show (w2.alloc (.cells #[.int .i64 (N : Int)] 3)).cell? ⟨w2.heap.size, 0, none⟩ = some (.int .i64 (N : Int)) by rw [World.cell?_alloc_mark]; rfl)
        clear hb3
        obtain ⟨K, hK⟩ : ∃ K, (numsN (t.fs.take k)).length = K := ⟨_, rfl⟩
        have HKK := Lib.hid hK
        rw [hK] at HROW3 HLEN
        have hlen := HLEN.out
        clear hK
        go_wp2_with (at_builtin; refine wpList_append_int rfl _ _ rfl w1.heap.size _ K (vOf (numsN (t.fs.take k))) (N : Int) rfl HROW3.out w2.heap.size rfl HCELL.out (by omega) HB3'.out.size ?_; intro v4 w4 hrow4 hg4; rw [← vOf_snoc] at hrow4; have HROW4 := Lib.hid hrow4; have HG4 := Lib.hid hg4; clear hrow4 hg4)
        go_roundw
        case rel => exact ⟨k + 1, by omega, by go_num, by rw [HT.out, List.length_append, HKK.out]; exact HROW4.out, HB3'.out.grown HG4.out HB3'.out.size (row_base' HROW3.out)⟩
        case measure => simp [intOf]; omega
      · have j1 : decide (0 < numOf x) = false := decide_eq_false hp
        have HT := Lib.hid (HNOT.out hp)
        go_wp2
        go_roundw
        case rel => exact ⟨k + 1, by omega, by go_num, by rw [HT.out]; exact HROW2.out, HB2'.out⟩
        case measure => simp [intOf]; omega
    · obtain rfl : k = n := by omega
      have htk : t.fs.take k = t.fs := List.take_of_length_le (by rw [← HML.out, HNN.out]; exact Nat.le_refl _)
      rw [htk] at HROW
      obtain ⟨A, cap, hv, hri, hA, hll, hcp, hfr⟩ := row_rdI HROW.out (Nat.le_trans (numsN_len _) (by omega))
      have HF := Lib.hid (show NumsAre w (numsN t.fs) (.returned (.slice A (numsN t.fs).length cap)) wr from ⟨A, cap, rfl, hri, hA, hcp, fun a ha => Nat.le_trans HB1.out.size (hfr a ha), HB.out⟩)
      subst hv
      clear hri hA hfr htk
      generalize (numsN t.fs).length = L at *
      go_wp2
      go_ret
      exact HF.out
end Go.Proofs.YtgmpdifggaggdaaGreatDoor.Wl

namespace Go.Proofs.YtgmpdifggaggdaaGreatDoor.Wl
open Go.RowKit Go.Proofs.YtgmpdifggaggdaaGreatDoor.Fld
set_option linter.unusedVariables false

set_option maxRecDepth 100000 in
set_option maxHeartbeats 3200000 in
theorem removeFresh_any {lo W g b lim : Nat} {m : List Dk.Ent} {ve vs : Value} {xs : List EA} {w : World} {c : Ct} {t : Dk.St} (h : WmX lo W g b lim m ve vs xs w c t) (hm : t.fs.length ≤ 900000) :
    Calls Tryz.prog 16 #[.pointer (some ⟨W, 0, none⟩)] w (StpI lo W g b lim (WFt W g b m ve vs) w (spFresh c t)) := by
  have HX := Lib.hid h
  have HN := Lib.hid (Dk.names_any g b m t w h.im (by omega))
  have HH := Lib.hid (Kp.has_new h.im freshN)
  have c0 := h.ct.blk.cell 0 (.pointer (some ⟨g, 0, none⟩)) rfl
  have HC0 := Lib.hid (fun (w1 : World) (hb : Below w.heap.size w w1) => (h.below hb).ct.blk.cell 0 (.pointer (some ⟨g, 0, none⟩)) rfl)
  have HR := Lib.hid (show spFresh c t = if (Dk.fget freshN t.fs).isSome then spDisk (Dk.stUnlink freshN) c t else (0, c, t) from rfl)
  clear h
  generalize spFresh c t = R at *
  go_enter Tryz.func16, Tryz.ntmps16
  go_wp2_with fail
  refine HN.out.mono ?_
  clear HN
  rintro e w1 ⟨A1, c1, rfl, hr1, _, hb1⟩
  have HC := Lib.hid (Kp.contains_any A1 _ c1 _ ⟨freshN.toArray⟩ w1 hr1)
  rw [Kp.hasS_names, HH.out] at HC
  have HB1 := Lib.hid hb1
  have d0 := HC0.out w1 hb1
  clear hr1 hb1 HH HC0
  go_wp2_with fail
  refine HC.out.mono ?_
  rintro e w2 ⟨rfl, rfl⟩
  clear HC
  cases hb : (Dk.fget freshN t.fs).isSome with
  | true =>
    rw [hb, if_pos rfl] at HR
    have HU := Lib.hid (Dk.unl_did g b m t ⟨freshN.toArray⟩ w1 (HX.out.im.below HB1.out))
    go_wp2_with fail
    refine HU.out.mono ?_
    rintro e w3 ⟨rfl, m3, hL3⟩
    have HF := Lib.hid (StpI.disk HX.out hL3.1 ((Kp.LeftM.below HB1.out).trans ⟨hL3.2.1, hL3.2.2⟩) (Dk.stUnlink freshN t).1)
    clear HU hL3
    go_wp2
    go_ret
    rw [HR.out]
    exact HF.out
  | false =>
    rw [hb] at HR
    have HF := Lib.hid (StpI.same HX.out HB1.out 0)
    go_wp2
    go_ret
    rw [HR.out]
    exact HF.out
end Go.Proofs.YtgmpdifggaggdaaGreatDoor.Wl

namespace Go.Proofs.YtgmpdifggaggdaaGreatDoor.Wl
open Go.Proofs.YtgmpdifggaggdaaGreatDoor.Fld
set_option linter.unusedVariables false

theorem acc_true {num : Nat} {c c' : Ct} {b : List Int} (h : acc num true c b = some c') : ∃ i, c'.segs = c.segs ++ [⟨num, i, 8 + b.length⟩] := by
  unfold acc at h
  split at h
  · cases h
  · split at h
    · rename_i hc
      cases h
      exact ⟨_, by rw [hc.2.1]⟩
    · cases h
  · simp at h
  · simp at h
  · simp at h
theorem acc_false {num : Nat} {c c' : Ct} {b : List Int} (h : acc num false c b = some c') : c'.segs = addSz (8 + b.length) c.segs := by
  unfold acc at h
  split at h
  · cases h
  · simp at h
  · split at h
    · cases h; rfl
    · cases h
  · simp only [if_true] at h; cases h; rfl
  · simp only [if_true] at h; cases h; rfl
theorem scanR_false (num : Nat) : ∀ (ts : List (List Int)) (c : Ct) (l : List Sg) (s : Sg), c.segs = l ++ [s] → ∃ z, (scanR num false c ts).1.segs = l ++ [⟨s.num, s.next, z⟩] ∧ z ≤ s.size + (Rc.recs ts).length
  | [], c, l, s, h => ⟨s.size, by rw [scanR, h], by omega⟩
  | b :: r, c, l, s, h => by
    have hl : (Rc.recs (b :: r)).length = 8 + b.length + (Rc.recs r).length := by rw [Rc.recs, List.length_append, Rc.recd_len]
    cases hq : acc num false c b with
    | none => exact ⟨s.size, by rw [scanR_none hq, h], by omega⟩
    | some c' =>
      have h1 := acc_false hq
      rw [h, addSz_snoc] at h1
      obtain ⟨z, h2, h3⟩ := scanR_false num r c' l ⟨s.num, s.next, s.size + (8 + b.length)⟩ h1
      exact ⟨z, by rw [scanR_some hq, h2], by rw [hl]; simp only at h3; omega⟩
theorem scanR_true (num : Nat) (ts : List (List Int)) (c : Ct) : ((scanR num true c ts).1 = c ∧ (ts = [] ∨ (scanR num true c ts).2 = false)) ∨ ∃ i z, (scanR num true c ts).1.segs = c.segs ++ [⟨num, i, z⟩] ∧ z ≤ (Rc.recs ts).length := by
  cases ts with
  | nil => exact .inl ⟨rfl, .inl rfl⟩
  | cons b r =>
    have hl : (Rc.recs (b :: r)).length = 8 + b.length + (Rc.recs r).length := by rw [Rc.recs, List.length_append, Rc.recd_len]
    cases hq : acc num true c b with
    | none => rw [scanR_none hq]; exact .inl ⟨rfl, .inr rfl⟩
    | some c' =>
      obtain ⟨i, h1⟩ := acc_true hq
      obtain ⟨z, h2, h3⟩ := scanR_false num r c' c.segs ⟨num, i, 8 + b.length⟩ h1
      exact .inr ⟨i, z, by rw [scanR_some hq, h2], by rw [hl]; simp only at h3; omega⟩
theorem recsOf_le (zs : List Int) : (Rc.recs (recsOf zs)).length ≤ zs.length := by
  by_cases h : ∃ ts, Rc.Sc zs ts
  · obtain ⟨ts, h⟩ := h
    rw [recsOf_eq h]
    obtain ⟨r, h1, _⟩ := h
    rw [h1, List.length_append]
    omega
  · unfold recsOf
    rw [dif_neg h]
    simp [Rc.recs]
/-- the segments that a scan has found are the first ones, and the last of them is no larger than its file -/
theorem scanS_segs : ∀ (l : List (Nat × List Int)) (c : Ct), ∃ k, k ≤ l.length ∧ (scanS c l).segs.map Sg.num = c.segs.map Sg.num ++ (l.take k).map Prod.fst ∧ (k = 0 → scanS c l = c) ∧ (0 < k → ∀ s, (scanS c l).segs.getLast? = some s → ∃ p ∈ l, p.1 = s.num ∧ s.size ≤ p.2.length)
  | [], c => ⟨0, Nat.le_refl _, by simp [scanS], fun _ => rfl, fun h => absurd h (Nat.lt_irrefl _)⟩
  | (n, zs) :: r, c => by
    have hz := recsOf_le zs
    have h1 := scanR_true n (recsOf zs) c
    rw [scanS]
    generalize recsOf zs = ts at *
    generalize scanR n true c ts = Q at *
    rcases h1 with ⟨h1, h2⟩ | ⟨i, z, h1, h2⟩
    · have hg : goesOn zs ts Q.2 = false := by
        unfold goesOn
        rcases h2 with h2 | h2
        · rw [h2]; simp
        · rw [h2]; simp
      rw [hg, if_neg (by simp), h1]
      exact ⟨0, Nat.zero_le _, by simp, fun _ => rfl, fun h => absurd h (Nat.lt_irrefl _)⟩
    · have hm : Q.1.segs.map Sg.num = c.segs.map Sg.num ++ [n] := by rw [h1, List.map_append]; rfl
      have hlast : ∀ s, Q.1.segs.getLast? = some s → ∃ p ∈ (n, zs) :: r, p.1 = s.num ∧ s.size ≤ p.2.length := by
        intro s hs
        rw [h1, List.getLast?_append] at hs
        simp at hs
        subst hs
        exact ⟨(n, zs), by simp, rfl, by simp only; omega⟩
      by_cases hg : goesOn zs ts Q.2 = true
      · rw [if_pos hg]
        obtain ⟨k, k1, k2, k3, k4⟩ := scanS_segs r Q.1
        refine ⟨k + 1, by simp only [List.length_cons]; omega, by rw [k2, hm, List.take_succ_cons, List.map_cons, List.append_assoc]; rfl, fun h => by omega, fun _ s hs => ?_⟩
        by_cases hk : k = 0
        · rw [k3 hk] at hs
          exact hlast s hs
        · obtain ⟨p, p1, p2⟩ := k4 (by omega) s hs
          exact ⟨p, by simp [p1], p2⟩
      · rw [if_neg hg]
        exact ⟨1, by simp, by rw [hm]; simp, fun h => by omega, fun _ s hs => hlast s hs⟩
/-- of a whole disk -/
theorem scanD_nums (fs : List Dk.Fil) : ∃ k, k ≤ (numsN fs).length ∧ (scanD fs).segs.map Sg.num = (numsN fs).take k := by
  obtain ⟨k, k1, k2, _⟩ := scanS_segs (segsOf fs) ct0
  refine ⟨k, by unfold numsN; rw [List.length_map]; exact k1, ?_⟩
  unfold scanD numsN
  rw [k2, List.map_take]
  rfl
theorem scanD_last (fs : List Dk.Fil) (s : Sg) (h : (scanD fs).segs.getLast? = some s) : ∃ p ∈ segsOf fs, p.1 = s.num ∧ s.size ≤ p.2.length := by
  obtain ⟨k, k1, k2, k3, k4⟩ := scanS_segs (segsOf fs) ct0
  by_cases hk : k = 0
  · unfold scanD at h
    rw [k3 hk] at h
    simp [ct0] at h
  · exact k4 (by omega) s h
end Go.Proofs.YtgmpdifggaggdaaGreatDoor.Wl
