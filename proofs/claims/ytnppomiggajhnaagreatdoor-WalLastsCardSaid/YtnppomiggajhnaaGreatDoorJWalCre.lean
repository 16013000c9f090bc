/-
  Several texts in one: Layer 6: the closure of creating in the program: a segment more, with its HEAD, synced. Conditions: the Wal and its disk lie in memory (WmX), the closure's variables hold the number and the Wal. Layer 6: removeRest in the program: the segments whose HEADs are not recoverable are unlinked. Conditions: the Wal and its disk lie in memory (WmX); the Wal has no more segments than the disk.
-/
import Derived.Test.YtnppomiggajhnaaGreatDoorJWalSh1
import Derived.Deep.RegionHeld3
import Derived.Deep.RegionLaw
import Derived.Deep.RegionWith
import Derived.Deep.CutRange
import Derived.Test.YtnppomiggajhnaaGreatDoorJWalAccR
import Derived.Deep.CutBlock
namespace Go.Proofs.YtnppomiggajhnaaGreatDoor.Wl
open Go.RowKit Go.Proofs.YtnppomiggajhnaaGreatDoor.Fld
set_option linter.unusedVariables false

theorem op_of {ops : Array Oper} {i : Nat} {o : Oper} {l : List Oper} (h : ops.toList.drop i = o :: l) : ops[i]? = some o := by
  have h1 : (ops.toList.drop i)[0]? = ops.toList[i]? := by rw [List.getElem?_drop, Nat.add_zero]
  rw [h] at h1
  rw [← Array.getElem?_toList]
  exact h1.symm
theorem takeL {P : Program} {ops : Array Oper} {Q : Exit → Act → World → Prop} {md : Region.Mode} {S : World → Prop} {i : Nat} {oi : Oper} {l : List Oper} {v : Value} {fuel : Nat} {listed : Array Bool} {a : Act} {w : World} (hi : ops.toList.drop i = oi :: l)
    (hs : Region.noSelect ops = true) (hf : Region.free md ops listed i = true) (hr : (Region.ready md ops listed).contains i = true)
    (hQ : ∀ c a w, Q (.panic c) (a.put oi.dst v) w → Q (.panic c) a w) (hy : YieldsIf P ops S oi v a) (hS : S w)
    (h : wpAnyH P md ops Q S fuel (listed.setIfInBounds i true) (a.put oi.dst v) w) : wpAnyH P md ops Q S (fuel + 1) listed a w := wpAnyH_take (op_of hi) hs hf hr hQ hy hS h
theorem consL {P : Program} {ops : Array Oper} {Q : Exit → Act → World → Prop} {md : Region.Mode} {S : World → Prop} {fuel : Nat} {listed : Array Bool} {a : Act} {w : World} {i : Nat} {o : Oper} {l : List Oper} {rs : List Nat} (ho : ops.toList.drop i = o :: l)
    (h : ∀ K' : Act → World → Prop, Shut (∀ a w, S w → (S w → wpAnyH P md ops Q S fuel (listed.setIfInBounds i true) a w) → K' a w) → if Region.wanted o (yielded ops a.tmps) = true then Oper.wp P o a w K' Q else K' (a.put o.dst undef) w)
    (hs : AllReadyH P md ops Q S fuel listed a w rs) : AllReadyH P md ops Q S fuel listed a w (i :: rs) := AllReadyH.cons (op_of ho) h hs
theorem blk_fr3 {S : List Nat} {w w' : World} {B : Nat} {cs : Array Value} {ty : TypeId} (h : Blk w B cs ty) (hf : Dk.Fr S w w') (hn : B ∉ S) : Blk w' B cs ty := h.of (hf.block B h.lt hn)
theorem head_len (n i : Nat) (hn : n ≤ 1099511627777) (hi : i ≤ 1099511627777) : (Rc.recd (chC (.head n i))).length ≤ 65536 := by
  have h := enc_len [0, n, i] (by simp; omega)
  have e : (chC (.head n i)).length = (enc [0, n, i]).length := rfl
  rw [Rc.recd_len, e]
  simp only [List.length_cons, List.length_nil] at h
  omega
abbrev segC (n i s : Int) : Array Value := #[.int .i64 n, .int .i64 i, .int .i64 s]
set_option maxRecDepth 100000 in
set_option maxHeartbeats 3200000 in
theorem create1_any {lo W g b lim : Nat} {m : List Dk.Ent} {ve vs : Value} {xs : List EA} {w : World} {c : Ct} {t : Dk.St} (h : WmX lo W g b lim m ve vs xs w c t) (n : Nat) (hn1 : 1 ≤ n) (hn2 : n ≤ 99999999) (hl : c.segs.length ≤ 900000) (hm : t.fs.length ≤ 890000) (bn bw : Nat) (hbn : w.cell? ⟨bn, 0, none⟩ = some (.int .i64 (n : Int))) (hw : w.cell? ⟨bw, 0, none⟩ = some (.pointer (some ⟨W, 0, none⟩))) (hbF : bn ∉ WFt W g b m ve vs) (hbF2 : bw ∉ WFt W g b m ve vs) :
    Calls Tryz.prog 140 #[.pointer (some ⟨bn, 0, none⟩), .pointer (some ⟨bw, 0, none⟩)] w (StpI lo W g b lim (WFt W g b m ve vs) w (spCreate n c t)) := by
  have HX := Lib.hid h
  obtain ⟨EA0, ec0, hve, _⟩ := row_slice h.ct.rE
  have hlen : c.lg.es.length = xs.length := by rw [h.ct.es]; simp
  have hle := h.ct.ok.1.1
  unfold Lg.last MI at hle
  have HLA := Lib.hid (fun (w' : World) (hb : Below w.heap.size w w') => show Calls Tryz.prog 64 #[.pointer (some ⟨W, 3, none⟩)] w' (fun e w2 => e = .returned (.int .i64 ((c.lg.base + xs.length : Nat) : Int)) ∧ Still w' w2) from last_any W 3 _ _ c.lg.base xs.length ec0 EA0 w' (h.below hb).ct.blk rfl (show (wcs g lim c ve vs)[3 + 1]? = some (.slice EA0 xs.length ec0) from by rw [← hve]; rfl) (by omega))
  obtain ⟨B0, hB0⟩ : ∃ B0 : Nat, c.lg.base + xs.length = B0 := ⟨_, rfl⟩
  have HB0 := Lib.hid (show c.lg.last = B0 by unfold Lg.last; rw [hlen]; exact hB0)
  have hb0 : B0 ≤ 1099511627776 := by omega
  rw [hB0] at HLA
  have e1 : IntKind.i64.wrap ((B0 : Int) + 1) = (B0 : Int) + 1 := wrap_in _ (by omega) (by omega)
  clear h hve hlen hle hB0
  go_enter Tryz.func140, Tryz.ntmps140
  go_upto_region 1 with fail
  go_cut [3] from 4 to 11 (fun sv wx => ∃ B, sv = .pointer (some ⟨B, 0, none⟩) ∧ Blk wx B (segC n ((B0 : Int) + 1) 0) 110 ∧ Below w.heap.size w wx ∧ w.heap.size ≤ B)
  case first =>
    have HB0 := Lib.hid (show Below w.heap.size w w.drew from (Below.refl _ _).drew)
    refine wp_region_noPanic ?_
    refine wp_region_held_drew (S := (fun w' => w'.cell? ⟨bn, 0, none⟩ = some (.int .i64 (n : Int)) ∧ w'.cell? ⟨bw, 0, none⟩ = some (.pointer (some ⟨W, 0, none⟩)))) (by kernel_rfl) ?_ (fun hHeld => ?_)
    · exact ⟨hbn, hw⟩
    refine takeL (i := 0) (v := ?_) rfl (by kernel_rfl) (by kernel_rfl) (by kernel_rfl) (fun _ _ _ h => h) (Or.inl ⟨by rfl, ?_⟩) (by assumption) ?_
    rotate_left
    · intro w' hSw
      (try dsimp only at hSw)
      go_simp
      first | done | with_reducible rfl
    simp only [Act.put, List.setIfInBounds_toArray, List.set_cons_zero, List.set_cons_succ]
    refine takeL (i := 1) (v := ?_) rfl (by kernel_rfl) (by kernel_rfl) (by kernel_rfl) (fun _ _ _ h => h) (Or.inl ⟨by rfl, ?_⟩) (by assumption) ?_
    rotate_left
    · intro w' hSw
      (try dsimp only at hSw)
      go_simp
      first | done | with_reducible rfl
    simp only [Act.put, List.setIfInBounds_toArray, List.set_cons_zero, List.set_cons_succ]
    refine takeL (i := 2) (v := ?_) rfl (by kernel_rfl) (by kernel_rfl) (by kernel_rfl) (fun _ _ _ h => h) (Or.inl ⟨by rfl, ?_⟩) (by assumption) ?_
    rotate_left
    · intro w' hSw
      (try dsimp only at hSw)
      go_simp
      first | done | with_reducible rfl
    simp only [Act.put, List.setIfInBounds_toArray, List.set_cons_zero, List.set_cons_succ]
    refine takeL (i := 3) (v := ?_) rfl (by kernel_rfl) (by kernel_rfl) (by kernel_rfl) (fun _ _ _ h => h) (Or.inl ⟨by rfl, ?_⟩) (by assumption) ?_
    rotate_left
    · intro w' hSw
      (try dsimp only at hSw)
      go_simp
      first | done | with_reducible rfl
    simp only [Act.put, List.setIfInBounds_toArray, List.set_cons_zero, List.set_cons_succ]
    refine takeL (i := 4) (v := ?_) rfl (by kernel_rfl) (by kernel_rfl) (by kernel_rfl) (fun _ _ _ h => h) (Or.inl ⟨by rfl, ?_⟩) (by assumption) ?_
    rotate_left
    · intro w' hSw
      (try dsimp only at hSw)
      go_simp
      first | done | with_reducible rfl
    simp only [Act.put, List.setIfInBounds_toArray, List.set_cons_zero, List.set_cons_succ]
    refine wpAnyH_ready (rs := [5, 8]) (by kernel_rfl) (by simp) ?_
    refine consL rfl (fun K hK => ?_) (consL rfl (fun K hK => ?_) AllReadyH.nil)
    · go_simp
      go_at_call 64
      refine (HLA.out _ (by exact HB0.out)).mono ?_
      rintro e w1 ⟨rfl, hst⟩
      have hb1 := still_below hst
      clear hst
      have HB1 := Lib.hid (show Below w.heap.size w w1 from HB0.out.trans (hb1.mono HB0.out.size))
      have s1_0 := (HB1.out.cell (lt_of_cell hbn)).trans hbn
      have s1_1 := (HB1.out.cell (lt_of_cell hw)).trans hw
      clear hb1
      refine hK.out _ _ ?_ (fun hHeld1 => ?_)
      · first | exact ⟨by assumption, by assumption⟩ | go_keep
      clear hK K
      try simp only [Act.put, List.setIfInBounds_toArray, List.set_cons_zero, List.set_cons_succ]
      refine takeL (i := 6) (v := ?_) rfl (by kernel_rfl) (by kernel_rfl) (by kernel_rfl) (fun _ _ _ h => h) (Or.inl ⟨by rfl, ?_⟩) (by assumption) ?_
      rotate_left
      · intro w' hSw
        (try dsimp only at hSw)
        go_simp
        first | done | with_reducible rfl
      simp only [Act.put, List.setIfInBounds_toArray, List.set_cons_zero, List.set_cons_succ]
      refine takeL (i := 7) (v := ?_) rfl (by kernel_rfl) (by kernel_rfl) (by kernel_rfl) (fun _ _ _ h => h) (Or.inl ⟨by rfl, ?_⟩) (by assumption) ?_
      rotate_left
      · intro w' hSw
        (try dsimp only at hSw)
        go_simp
        first | done | with_reducible rfl
      simp only [Act.put, List.setIfInBounds_toArray, List.set_cons_zero, List.set_cons_succ]
      refine wpAnyH_ready (rs := [8]) (by kernel_rfl) (by simp) ?_
      refine consL rfl (fun K hK => ?_) AllReadyH.nil
      have HB2 := Lib.hid (show Below w.heap.size w (w1.alloc (.cells #[.int .i64 0, .int .i64 0, .int .i64 0] 110)) from HB1.out.alloc HB1.out.size _)
      have HK2 := Lib.hid (show Blk (w1.alloc (.cells #[.int .i64 0, .int .i64 0, .int .i64 0] 110)) w1.heap.size #[.int .i64 0, .int .i64 0, .int .i64 0] 110 from Blk.new w1 #[.int .i64 0, .int .i64 0, .int .i64 0] 110)
      have s2_0 := (HB2.out.cell (lt_of_cell hbn)).trans hbn
      have s2_1 := (HB2.out.cell (lt_of_cell hw)).trans hw
      go_simp
      refine hK.out _ _ ?_ (fun hHeld2 => ?_)
      · first | exact ⟨by assumption, by assumption⟩ | go_keep
      clear hK K
      try simp only [Act.put, List.setIfInBounds_toArray, List.set_cons_zero, List.set_cons_succ]
      have y0 := HK2.out.cell 0 (.int .i64 0) rfl
      have y1 := HK2.out.cell 1 (.int .i64 0) rfl
      have y2 := HK2.out.cell 2 (.int .i64 0) rfl
      have z0 := HK2.out.free 0
      have z1 := HK2.out.free 1
      have z2 := HK2.out.free 2
      have HLT := Lib.hid (show w.heap.size ≤ w1.heap.size from HB1.out.size)
      have HBS := Lib.hid (show Below w.heap.size w ((((w1.alloc (.cells #[.int .i64 0, .int .i64 0, .int .i64 0] 110)).setCell ⟨w1.heap.size, 0, none⟩ (.int .i64 (n : Int))).setCell ⟨w1.heap.size, 1, none⟩ (.int .i64 ((B0 : Int) + 1))).setCell ⟨w1.heap.size, 2, none⟩ (.int .i64 0)) from ((HB2.out.setCell (p := ⟨w1.heap.size, 0, none⟩) HLT.out _).setCell (p := ⟨w1.heap.size, 1, none⟩) HLT.out _).setCell (p := ⟨w1.heap.size, 2, none⟩) HLT.out _)
      have HKS := Lib.hid (((HK2.out.set 0 (.int .i64 (n : Int)) (by simp)).set 1 (.int .i64 ((B0 : Int) + 1)) (by simp)).set 2 (.int .i64 0) (by simp))
      have s3_0 := (HBS.out.cell (lt_of_cell hbn)).trans hbn
      have s3_1 := (HBS.out.cell (lt_of_cell hw)).trans hw
      refine wpAnyH_ready (rs := [9]) (by kernel_rfl) (by simp) ?_
      refine consL rfl (fun K hK => ?_) AllReadyH.nil
      go_simp
      refine hK.out _ _ ?_ (fun hHeld3 => ?_)
      · first | exact ⟨by assumption, by assumption⟩ | go_keep | exact ⟨s3_0, s3_1⟩
      clear hK K
      refine wpAnyH_done (by kernel_rfl) ?_ _
      refine NoPanic.normal ?_
      go_wp2_with fail
      go_meet
      first | exact ⟨_, rfl, HKS.out, HBS.out, HLT.out⟩ | exact ⟨_, rfl, Blk.new _ _ _, HB1.out.alloc HB1.out.size _, HLT.out⟩
    · have HB4 := Lib.hid (show Below w.heap.size w (w.drew.alloc (.cells #[.int .i64 0, .int .i64 0, .int .i64 0] 110)) from HB0.out.alloc HB0.out.size _)
      have HK4 := Lib.hid (show Blk (w.drew.alloc (.cells #[.int .i64 0, .int .i64 0, .int .i64 0] 110)) w.heap.size #[.int .i64 0, .int .i64 0, .int .i64 0] 110 from Blk.new w.drew #[.int .i64 0, .int .i64 0, .int .i64 0] 110)
      have s4_0 := (HB4.out.cell (lt_of_cell hbn)).trans hbn
      have s4_1 := (HB4.out.cell (lt_of_cell hw)).trans hw
      go_simp
      refine hK.out _ _ ?_ (fun hHeld4 => ?_)
      · first | exact ⟨by assumption, by assumption⟩ | go_keep
      clear hK K
      try simp only [Act.put, List.setIfInBounds_toArray, List.set_cons_zero, List.set_cons_succ]
      refine wpAnyH_ready (rs := [5]) (by kernel_rfl) (by simp) ?_
      refine consL rfl (fun K hK => ?_) AllReadyH.nil
      go_simp
      go_at_call 64
      refine (HLA.out _ (by exact HB4.out)).mono ?_
      rintro e w5 ⟨rfl, hst⟩
      have hb5 := still_below hst
      clear hst
      have HB5 := Lib.hid (show Below w.heap.size w w5 from HB4.out.trans (hb5.mono HB4.out.size))
      have HK5 := Lib.hid (HK4.out.below hb5)
      have s5_0 := (HB5.out.cell (lt_of_cell hbn)).trans hbn
      have s5_1 := (HB5.out.cell (lt_of_cell hw)).trans hw
      clear hb5
      refine hK.out _ _ ?_ (fun hHeld5 => ?_)
      · first | exact ⟨by assumption, by assumption⟩ | go_keep
      clear hK K
      try simp only [Act.put, List.setIfInBounds_toArray, List.set_cons_zero, List.set_cons_succ]
      refine takeL (i := 6) (v := ?_) rfl (by kernel_rfl) (by kernel_rfl) (by kernel_rfl) (fun _ _ _ h => h) (Or.inl ⟨by rfl, ?_⟩) (by assumption) ?_
      rotate_left
      · intro w' hSw
        (try dsimp only at hSw)
        go_simp
        first | done | with_reducible rfl
      simp only [Act.put, List.setIfInBounds_toArray, List.set_cons_zero, List.set_cons_succ]
      refine takeL (i := 7) (v := ?_) rfl (by kernel_rfl) (by kernel_rfl) (by kernel_rfl) (fun _ _ _ h => h) (Or.inl ⟨by rfl, ?_⟩) (by assumption) ?_
      rotate_left
      · intro w' hSw
        (try dsimp only at hSw)
        go_simp
        first | done | with_reducible rfl
      simp only [Act.put, List.setIfInBounds_toArray, List.set_cons_zero, List.set_cons_succ]
      have y0 := HK5.out.cell 0 (.int .i64 0) rfl
      have y1 := HK5.out.cell 1 (.int .i64 0) rfl
      have y2 := HK5.out.cell 2 (.int .i64 0) rfl
      have z0 := HK5.out.free 0
      have z1 := HK5.out.free 1
      have z2 := HK5.out.free 2
      have HLT := Lib.hid (show w.heap.size ≤ w.heap.size from Nat.le_refl _)
      have HBS := Lib.hid (show Below w.heap.size w (((w5.setCell ⟨w.heap.size, 0, none⟩ (.int .i64 (n : Int))).setCell ⟨w.heap.size, 1, none⟩ (.int .i64 ((B0 : Int) + 1))).setCell ⟨w.heap.size, 2, none⟩ (.int .i64 0)) from ((HB5.out.setCell (p := ⟨w.heap.size, 0, none⟩) HLT.out _).setCell (p := ⟨w.heap.size, 1, none⟩) HLT.out _).setCell (p := ⟨w.heap.size, 2, none⟩) HLT.out _)
      have HKS := Lib.hid (((HK5.out.set 0 (.int .i64 (n : Int)) (by simp)).set 1 (.int .i64 ((B0 : Int) + 1)) (by simp)).set 2 (.int .i64 0) (by simp))
      have s6_0 := (HBS.out.cell (lt_of_cell hbn)).trans hbn
      have s6_1 := (HBS.out.cell (lt_of_cell hw)).trans hw
      refine wpAnyH_ready (rs := [9]) (by kernel_rfl) (by simp) ?_
      refine consL rfl (fun K hK => ?_) AllReadyH.nil
      go_simp
      refine hK.out _ _ ?_ (fun hHeld6 => ?_)
      · first | exact ⟨by assumption, by assumption⟩ | go_keep | exact ⟨s6_0, s6_1⟩
      clear hK K
      refine wpAnyH_done (by kernel_rfl) ?_ _
      refine NoPanic.normal ?_
      go_wp2_with fail
      go_meet
      first | exact ⟨_, rfl, HKS.out, HBS.out, HLT.out⟩ | exact ⟨_, rfl, Blk.new _ _ _, HB0.out.alloc HB0.out.size _, HLT.out⟩
  case rest =>
    obtain ⟨B, rfl, hBk, hbx, hBlo⟩ := hcut
    obtain ⟨wa, rfl⟩ : ∃ wa, wa = wc := ⟨_, rfl⟩
    have HXa := Lib.hid (HX.out.below hbx)
    have HBK := Lib.hid hBk
    have HBX := Lib.hid hbx
    have HBL := Lib.hid hBlo
    obtain ⟨SA, sc, hvs, _⟩ := row_slice HXa.out.ct.rS
    have HVS := Lib.hid hvs
    have HLOa := Lib.hid (HXa.out.size)
    have hwa := (hbx.cell (lt_of_cell hw)).trans hw
    have hna := (hbx.cell (lt_of_cell hbn)).trans hbn
    have s0 := HXa.out.ct.blk.cell 5 (.slice SA c.segs.length sc) (by rw [← hvs]; rfl)
    have y0 := hBk.cell 0 (.int .i64 (n : Int)) rfl
    have y1 := hBk.cell 1 (.int .i64 ((B0 : Int) + 1)) rfl
    have y2 := hBk.cell 2 (.int .i64 0) rfl
    have HSEG := Lib.hid (show (c.segs ++ [(⟨n, c.lg.last + 1, 0⟩ : Sg)]).length = c.segs.length + 1 by simp)
    have HROWS := Lib.hid (show rowS (c.segs ++ [⟨n, c.lg.last + 1, 0⟩]) = rowS c.segs ++ [.int .i64 (n : Int), .int .i64 ((B0 : Int) + 1), .int .i64 0] by rw [rowS_append, HB0.out]; simp [rowS, Sg.cells])
    have HRA := Lib.hid (show (wa.alloc (.cells (segC n ((B0 : Int) + 1) 0) 110)).drew.ownsRow lo 110 3 (.slice SA c.segs.length sc) c.segs.length (rowS c.segs) by
      have h1 := HXa.out.ct.rS
      rw [hvs] at h1
      exact row_of h1 (fun j hj => Below.heap_alloc wa _ j (row_lo h1 j hj).2))
    have HNW := Lib.hid (show ∀ (j : Nat) (u : Value), [Value.int .i64 (n : Int), Value.int .i64 ((B0 : Int) + 1), Value.int .i64 0][j]? = some u → (wa.alloc (.cells (segC n ((B0 : Int) + 1) 0) 110)).drew.cell? (Addr.add ⟨wa.heap.size, 0, none⟩ j) = some u from fun j u hj => by
      show (wa.alloc (.cells (segC n ((B0 : Int) + 1) 0) 110)).cell? _ = _
      rw [add_at, World.cell?_alloc_mark]
      simpa using hj)
    have HLO2 := Lib.hid (show lo ≤ (wa.alloc (.cells (segC n ((B0 : Int) + 1) 0) 110)).drew.heap.size by have := HLOa.out; show lo ≤ (wa.alloc _).heap.size; simp; omega)
    have hal := alloc_below' wa (.cells (segC n ((B0 : Int) + 1) 0) 110)
    have a0 := (hal.cell (lt_of_cell hwa)).trans hwa
    have a1 := (hal.cell (lt_of_cell s0)).trans s0
    have a2 := (hal.cell (lt_of_cell y0)).trans y0
    have a3 := (hal.cell (lt_of_cell y1)).trans y1
    have a4 := (hal.cell (lt_of_cell y2)).trans y2
    have HXb := Lib.hid ((HXa.out.below hal).below (show Below _ _ (wa.alloc (.cells (segC n ((B0 : Int) + 1) 0) 110)).drew from (Below.refl _ _).drew))
    obtain ⟨inf, i1, i2, i3, i4⟩ := seg_info
    have HOB := Lib.hid (show bw ∉ (Value.slice SA c.segs.length sc).ownBlock.toList from fun hm => hbF2 (by rw [← HVS.out] at hm; unfold WFt CtF; simp only [List.mem_cons, List.mem_append]; exact .inr (.inr (.inr (.inr (.inr hm))))))
    have HBW := Lib.hid (show W ≠ B from fun e => by have := HX.out.ct.blk.lt; rw [e] at this; omega)
    have HWB := Lib.hid (show (⟨W, 5, none⟩ : Addr) ≠ ⟨bw, 0, none⟩ from fun e => hbF2 (by have : W = bw := congrArg Addr.block e; rw [← this]; unfold WFt CtF; simp))
    have HBO := Lib.hid (show B ∉ (Value.slice SA c.segs.length sc).ownBlock.toList from fun hm => by rw [Option.mem_toList, ← HVS.out] at hm; have := (row_lo HX.out.ct.rS B hm).2; omega)
    have HBK2 := Lib.hid (hBk.past (.cells (segC n ((B0 : Int) + 1) 0) 110))
    have HBb := Lib.hid (show Below w.heap.size w (wa.alloc (.cells (segC n ((B0 : Int) + 1) 0) 110)).drew from (hbx.trans (hal.mono hbx.size)).drew)
    clear hBk hbx hBlo hvs hal
    unfold segC at *
    go_upto_region 2 with fail
    go_cut [] from 12 to 23 (fun wx => ∃ v', WmX lo W g b lim m ve v' xs wx ⟨c.lg, c.segs ++ [⟨n, c.lg.last + 1, 0⟩]⟩ t ∧ Dk.Fr (WFt W g b m ve vs) w wx ∧ (∀ i ∈ WFt W g b m ve v', i ∈ WFt W g b m ve vs ∨ w.heap.size ≤ i) ∧ Blk wx B #[.int .i64 (n : Int), .int .i64 ((B0 : Int) + 1), .int .i64 0] 110 ∧ B ∉ WFt W g b m ve v')
    case first =>
      have HSW := Lib.hid (show (wa.alloc (.cells #[.int .i64 (n : Int), .int .i64 ((B0 : Int) + 1), .int .i64 0] 110)).drew.heap.size = wa.heap.size + 1 by show (wa.alloc _).heap.size = _; simp)
      refine wp_region_noPanic ?_
      refine wp_region_held_drew (S := (fun w' => w'.cell? ⟨bw, 0, none⟩ = some (.pointer (some ⟨W, 0, none⟩)) ∧ w'.cell? ⟨B, 0, none⟩ = some (.int .i64 (n : Int)) ∧ w'.cell? ⟨B, 1, none⟩ = some (.int .i64 ((B0 : Int) + 1)) ∧ w'.cell? ⟨B, 2, none⟩ = some (.int .i64 0))) (by kernel_rfl) ⟨hwa, y0, y1, y2⟩ (fun hHeld => ?_)
      refine takeL (i := 0) (v := ?_) rfl (by kernel_rfl) (by kernel_rfl) (by kernel_rfl) (fun _ _ _ h => h) (Or.inl ⟨by rfl, ?_⟩) (by assumption) ?_
      rotate_left
      · intro w' hSw
        (try dsimp only at hSw)
        go_simp
        first | done | with_reducible rfl
      simp only [Act.put, List.setIfInBounds_toArray, List.set_cons_zero, List.set_cons_succ]
      refine takeL (i := 1) (v := ?_) rfl (by kernel_rfl) (by kernel_rfl) (by kernel_rfl) (fun _ _ _ h => h) (Or.inl ⟨by rfl, ?_⟩) (by assumption) ?_
      rotate_left
      · intro w' hSw
        (try dsimp only at hSw)
        go_simp
        first | done | with_reducible rfl
      simp only [Act.put, List.setIfInBounds_toArray, List.set_cons_zero, List.set_cons_succ]
      refine takeL (i := 2) (v := ?_) rfl (by kernel_rfl) (by kernel_rfl) (by kernel_rfl) (fun _ _ _ h => h) (Or.inl ⟨by rfl, ?_⟩) (by assumption) ?_
      rotate_left
      · intro w' hSw
        (try dsimp only at hSw)
        go_simp
        first | done | with_reducible rfl
      simp only [Act.put, List.setIfInBounds_toArray, List.set_cons_zero, List.set_cons_succ]
      refine takeL (i := 3) (v := ?_) rfl (by kernel_rfl) (by kernel_rfl) (by kernel_rfl) (fun _ _ _ h => h) (Or.inl ⟨by rfl, ?_⟩) (by assumption) ?_
      rotate_left
      · intro w' hSw
        (try dsimp only at hSw)
        go_simp
        first | done | with_reducible rfl
      simp only [Act.put, List.setIfInBounds_toArray, List.set_cons_zero, List.set_cons_succ]
      refine takeL (i := 4) (v := ?_) rfl (by kernel_rfl) (by kernel_rfl) (by kernel_rfl) (fun _ _ _ h => h) (Or.inl ⟨by rfl, ?_⟩) (by assumption) ?_
      rotate_left
      · intro w' hSw
        (try dsimp only at hSw)
        go_simp
        first | done | with_reducible rfl
      simp only [Act.put, List.setIfInBounds_toArray, List.set_cons_zero, List.set_cons_succ]
      refine takeL (i := 6) (v := ?_) rfl (by kernel_rfl) (by kernel_rfl) (by kernel_rfl) (fun _ _ _ h => h) (Or.inl ⟨by rfl, ?_⟩) (by assumption) ?_
      rotate_left
      · intro w' hSw
        (try dsimp only at hSw)
        go_simp
        first | done | with_reducible rfl
      simp only [Act.put, List.setIfInBounds_toArray, List.set_cons_zero, List.set_cons_succ]
      refine wpAnyH_ready (rs := [5, 7]) (by kernel_rfl) (by simp) ?_
      refine consL rfl (fun K hK => ?_) (consL rfl (fun K hK => ?_) AllReadyH.nil)
      · go_simp
        refine hK.out _ _ ?_ (fun hHeld1 => ?_)
        · first | exact ⟨by assumption, by assumption, by assumption, by assumption⟩ | go_keep
        clear hK K
        try simp only [Act.put, List.setIfInBounds_toArray, List.set_cons_zero, List.set_cons_succ]
        refine wpAnyH_ready (rs := [7]) (by kernel_rfl) (by simp) ?_
        refine consL rfl (fun K hK => ?_) AllReadyH.nil
        go_simp
        refine hK.out _ _ ?_ (fun hHeld2 => ?_)
        · first | exact ⟨by assumption, by assumption, by assumption, by assumption⟩ | go_keep
        clear hK K
        try simp only [Act.put, List.setIfInBounds_toArray, List.set_cons_zero, List.set_cons_succ]
        refine wpAnyH_ready (rs := [8]) (by kernel_rfl) (by simp) ?_
        refine consL rfl (fun K hK => ?_) AllReadyH.nil
        refine step_append_row rfl _ _ 84 rfl 110 inf _ 3 24 Tryz.underlying84 i1 i2 i3 i4 rfl (by omega) lo (.slice SA c.segs.length sc) c.segs.length (rowS c.segs) rfl (by exact HRA.out) ⟨wa.heap.size, 0, none⟩ 1 1 [.int .i64 (n : Int), .int .i64 ((B0 : Int) + 1), .int .i64 0] rfl rfl (by exact HNW.out) (by simp [Value.oneCell']) (by unfold maxLen; omega) (by omega) (by exact HLO2.out) ?_
        intro v' w3 hr3 hg3 hat3
        obtain ⟨VA, vc, hvv, _⟩ := row_slice hr3
        subst hvv
        have HR3 := Lib.hid hr3
        have HG3 := Lib.hid hg3
        have HA3 := Lib.hid hat3
        have hfr3 := (Dk.Fr.refl (Value.slice SA c.segs.length sc).ownBlock.toList _).grown hg3 (fun i hi => .inl (by simp [hi]))
        have xw := hfr3.cell (show (wa.drew.alloc (.cells #[.int .i64 (n : Int), .int .i64 ((B0 : Int) + 1), .int .i64 0] 110)).cell? ⟨bw, 0, none⟩ = some (.pointer (some ⟨W, 0, none⟩)) from a0) HOB.out
        have xb := blk_fr3 (show Blk (wa.drew.alloc (.cells #[.int .i64 (n : Int), .int .i64 ((B0 : Int) + 1), .int .i64 0] 110)) B #[.int .i64 (n : Int), .int .i64 ((B0 : Int) + 1), .int .i64 0] 110 from HBK2.out) hfr3 HBO.out
        have x0 := xb.cell 0 (.int .i64 (n : Int)) rfl
        have x1 := xb.cell 1 (.int .i64 ((B0 : Int) + 1)) rfl
        have x2 := xb.cell 2 (.int .i64 0) rfl
        have hb3 := HXb.out.ct.blk.of (hg3.block W HXb.out.ct.blk.lt (by rw [← HVS.out]; exact (row_ne HXb.out.ct.rS HXb.out.ct.blk HXb.out.ct.t2).symm))
        have x5 := hb3.cell 5 _ rfl
        have f5 := hb3.free 5
        have HXBK := Lib.hid xb
        clear hr3 hg3 hat3 hb3 hfr3 xb
        refine hK.out _ _ ?_ (fun hHeld3 => ?_)
        · first | exact ⟨by assumption, by assumption, by assumption, by assumption⟩ | go_keep
        clear hK K
        try simp only [Act.put, List.setIfInBounds_toArray, List.set_cons_zero, List.set_cons_succ]
        refine takeL (i := 9) (v := ?_) rfl (by kernel_rfl) (by kernel_rfl) (by kernel_rfl) (fun _ _ _ h => h) (Or.inl ⟨by rfl, ?_⟩) (by assumption) ?_
        rotate_left
        · intro w' hSw
          (try dsimp only at hSw)
          go_simp
          first | done | with_reducible rfl
        simp only [Act.put, List.setIfInBounds_toArray, List.set_cons_zero, List.set_cons_succ]
        refine takeL (i := 10) (v := ?_) rfl (by kernel_rfl) (by kernel_rfl) (by kernel_rfl) (fun _ _ _ h => h) (Or.inl ⟨by rfl, ?_⟩) (by assumption) ?_
        rotate_left
        · intro w' hSw
          (try dsimp only at hSw)
          go_simp
          first | done | with_reducible rfl
        simp only [Act.put, List.setIfInBounds_toArray, List.set_cons_zero, List.set_cons_succ]
        refine takeL (i := 11) (v := ?_) rfl (by kernel_rfl) (by kernel_rfl) (by kernel_rfl) (fun _ _ _ h => h) (Or.inl ⟨by rfl, ?_⟩) (by assumption) ?_
        rotate_left
        · intro w' hSw
          (try dsimp only at hSw)
          go_simp
          first | done | with_reducible rfl
        simp only [Act.put, List.setIfInBounds_toArray, List.set_cons_zero, List.set_cons_succ]
        refine wpAnyH_ready (rs := [12]) (by kernel_rfl) (by simp) ?_
        refine consL rfl (fun K hK => ?_) AllReadyH.nil
        go_simp
        refine hK.out _ _ ?_ (fun hHeld4 => ?_)
        · exact ⟨(World.cell?_setCell_other (h := HWB.out) ..).trans xw, (World.cell?_setCell_other (h := fun e => HBW.out (congrArg Addr.block e)) ..).trans x0, (World.cell?_setCell_other (h := fun e => HBW.out (congrArg Addr.block e)) ..).trans x1, (World.cell?_setCell_other (h := fun e => HBW.out (congrArg Addr.block e)) ..).trans x2⟩
        clear hK K
        refine wpAnyH_done (by kernel_rfl) ?_ _
        refine NoPanic.normal ?_
        go_wp2_with fail
        go_meet
        have h9 := HXb.out.seg n hn1 hn2 (v' := .slice VA (c.segs.length + 1) vc) (by rw [HROWS.out]; exact HR3.out) (by rw [HVS.out]; exact HG3.out) (by rw [HVS.out]; rcases HA3.out with h | h; (exact .inl h); (exact .inr ⟨_, h, Nat.le_refl _⟩))
        exact ⟨_, h9.1, (Dk.Fr.below HBb.out).same h9.2.1, fun i hi => (h9.2.2 i hi).imp id (Nat.le_trans HBb.out.size), HXBK.out.far _ (fun e => HBW.out (show W = B from e)) _, fun hm => (h9.2.2 B hm).elim (fun h => by have := HX.out.lt B h; have := HBL.out; omega) (fun h => by have h8 := HBK.out.lt; have h7 := HSW.out; omega)⟩
      · go_simp
        refine hK.out _ _ ?_ (fun hHeld1 => ?_)
        · first | exact ⟨by assumption, by assumption, by assumption, by assumption⟩ | go_keep
        clear hK K
        try simp only [Act.put, List.setIfInBounds_toArray, List.set_cons_zero, List.set_cons_succ]
        refine wpAnyH_ready (rs := [5]) (by kernel_rfl) (by simp) ?_
        refine consL rfl (fun K hK => ?_) AllReadyH.nil
        go_simp
        refine hK.out _ _ ?_ (fun hHeld2 => ?_)
        · first | exact ⟨by assumption, by assumption, by assumption, by assumption⟩ | go_keep
        clear hK K
        try simp only [Act.put, List.setIfInBounds_toArray, List.set_cons_zero, List.set_cons_succ]
        refine wpAnyH_ready (rs := [8]) (by kernel_rfl) (by simp) ?_
        refine consL rfl (fun K hK => ?_) AllReadyH.nil
        refine step_append_row rfl _ _ 84 rfl 110 inf _ 3 24 Tryz.underlying84 i1 i2 i3 i4 rfl (by omega) lo (.slice SA c.segs.length sc) c.segs.length (rowS c.segs) rfl (by exact HRA.out) ⟨wa.heap.size, 0, none⟩ 1 1 [.int .i64 (n : Int), .int .i64 ((B0 : Int) + 1), .int .i64 0] rfl rfl (by exact HNW.out) (by simp [Value.oneCell']) (by unfold maxLen; omega) (by omega) (by exact HLO2.out) ?_
        intro v' w3 hr3 hg3 hat3
        obtain ⟨VA, vc, hvv, _⟩ := row_slice hr3
        subst hvv
        have HR3 := Lib.hid hr3
        have HG3 := Lib.hid hg3
        have HA3 := Lib.hid hat3
        have hfr3 := (Dk.Fr.refl (Value.slice SA c.segs.length sc).ownBlock.toList _).grown hg3 (fun i hi => .inl (by simp [hi]))
        have xw := hfr3.cell (show (wa.drew.alloc (.cells #[.int .i64 (n : Int), .int .i64 ((B0 : Int) + 1), .int .i64 0] 110)).cell? ⟨bw, 0, none⟩ = some (.pointer (some ⟨W, 0, none⟩)) from a0) HOB.out
        have xb := blk_fr3 (show Blk (wa.drew.alloc (.cells #[.int .i64 (n : Int), .int .i64 ((B0 : Int) + 1), .int .i64 0] 110)) B #[.int .i64 (n : Int), .int .i64 ((B0 : Int) + 1), .int .i64 0] 110 from HBK2.out) hfr3 HBO.out
        have x0 := xb.cell 0 (.int .i64 (n : Int)) rfl
        have x1 := xb.cell 1 (.int .i64 ((B0 : Int) + 1)) rfl
        have x2 := xb.cell 2 (.int .i64 0) rfl
        have hb3 := HXb.out.ct.blk.of (hg3.block W HXb.out.ct.blk.lt (by rw [← HVS.out]; exact (row_ne HXb.out.ct.rS HXb.out.ct.blk HXb.out.ct.t2).symm))
        have x5 := hb3.cell 5 _ rfl
        have f5 := hb3.free 5
        have HXBK := Lib.hid xb
        clear hr3 hg3 hat3 hb3 hfr3 xb
        refine hK.out _ _ ?_ (fun hHeld3 => ?_)
        · first | exact ⟨by assumption, by assumption, by assumption, by assumption⟩ | go_keep
        clear hK K
        try simp only [Act.put, List.setIfInBounds_toArray, List.set_cons_zero, List.set_cons_succ]
        refine takeL (i := 9) (v := ?_) rfl (by kernel_rfl) (by kernel_rfl) (by kernel_rfl) (fun _ _ _ h => h) (Or.inl ⟨by rfl, ?_⟩) (by assumption) ?_
        rotate_left
        · intro w' hSw
          (try dsimp only at hSw)
          go_simp
          first | done | with_reducible rfl
        simp only [Act.put, List.setIfInBounds_toArray, List.set_cons_zero, List.set_cons_succ]
        refine takeL (i := 10) (v := ?_) rfl (by kernel_rfl) (by kernel_rfl) (by kernel_rfl) (fun _ _ _ h => h) (Or.inl ⟨by rfl, ?_⟩) (by assumption) ?_
        rotate_left
        · intro w' hSw
          (try dsimp only at hSw)
          go_simp
          first | done | with_reducible rfl
        simp only [Act.put, List.setIfInBounds_toArray, List.set_cons_zero, List.set_cons_succ]
        refine takeL (i := 11) (v := ?_) rfl (by kernel_rfl) (by kernel_rfl) (by kernel_rfl) (fun _ _ _ h => h) (Or.inl ⟨by rfl, ?_⟩) (by assumption) ?_
        rotate_left
        · intro w' hSw
          (try dsimp only at hSw)
          go_simp
          first | done | with_reducible rfl
        simp only [Act.put, List.setIfInBounds_toArray, List.set_cons_zero, List.set_cons_succ]
        refine wpAnyH_ready (rs := [12]) (by kernel_rfl) (by simp) ?_
        refine consL rfl (fun K hK => ?_) AllReadyH.nil
        go_simp
        refine hK.out _ _ ?_ (fun hHeld4 => ?_)
        · exact ⟨(World.cell?_setCell_other (h := HWB.out) ..).trans xw, (World.cell?_setCell_other (h := fun e => HBW.out (congrArg Addr.block e)) ..).trans x0, (World.cell?_setCell_other (h := fun e => HBW.out (congrArg Addr.block e)) ..).trans x1, (World.cell?_setCell_other (h := fun e => HBW.out (congrArg Addr.block e)) ..).trans x2⟩
        clear hK K
        refine wpAnyH_done (by kernel_rfl) ?_ _
        refine NoPanic.normal ?_
        go_wp2_with fail
        go_meet
        have h9 := HXb.out.seg n hn1 hn2 (v' := .slice VA (c.segs.length + 1) vc) (by rw [HROWS.out]; exact HR3.out) (by rw [HVS.out]; exact HG3.out) (by rw [HVS.out]; rcases HA3.out with h | h; (exact .inl h); (exact .inr ⟨_, h, Nat.le_refl _⟩))
        exact ⟨_, h9.1, (Dk.Fr.below HBb.out).same h9.2.1, fun i hi => (h9.2.2 i hi).imp id (Nat.le_trans HBb.out.size), HXBK.out.far _ (fun e => HBW.out (show W = B from e)) _, fun hm => (h9.2.2 B hm).elim (fun h => by have := HX.out.lt B h; have := HBL.out; omega) (fun h => by have h8 := HBK.out.lt; have h7 := HSW.out; omega)⟩
    case rest =>
      obtain ⟨v1, hX1, hF1, hS1, hB1, hBF⟩ := hcut
      have HBF := Lib.hid hBF
      have HX1 := Lib.hid hX1
      have HF1 := Lib.hid hF1
      have HS1 := Lib.hid hS1
      have HB1 := Lib.hid hB1
      have z1 := hB1.cell 0 (.int .i64 (n : Int)) rfl
      have z2 := hB1.cell 1 (.int .i64 ((B0 : Int) + 1)) rfl
      have z0 := hF1.cell hw hbF2
      have HR := Lib.hid (show spCreate n c t = spRun [spWrite (Rc.recd (chC (.head n (B0 + 1)))), spSync] ⟨c.lg, c.segs ++ [⟨n, c.lg.last + 1, 0⟩]⟩ t by unfold spCreate; rw [HB0.out])
      have HLEN := Lib.hid (head_len n (B0 + 1) (by omega) (by omega))
      have HHR := Lib.hid (fun (w' : World) => show Calls Tryz.prog 141 #[.int .i64 (n : Int), .int .i64 ((B0 : Int) + 1)] w' (Made w' (Rc.recd (chC (.head n (B0 + 1))))) from by
        have := headRecord_any n (B0 + 1) w' (by omega) (by omega)
        rwa [show ((B0 + 1 : Nat) : Int) = (B0 : Int) + 1 by omega] at this)
      have HWF := Lib.hid (show bw ∉ WFt W g b m ve v1 from out_of hbF2 hw hS1)
      have HK := Lib.hid (show ∀ w', Below wc.heap.size wc w' → w'.cell? ⟨bw, 0, none⟩ = some (.pointer (some ⟨W, 0, none⟩)) ∧ w'.cell? ⟨B, 0, none⟩ = some (.int .i64 (n : Int)) ∧ w'.cell? ⟨B, 1, none⟩ = some (.int .i64 ((B0 : Int) + 1)) from fun w' hb => ⟨(hb.cell (lt_of_cell z0)).trans z0, (hb.cell (lt_of_cell z1)).trans z1, (hb.cell (lt_of_cell z2)).trans z2⟩)
      have HSG := Lib.hid (show (c.segs ++ [(⟨n, c.lg.last + 1, 0⟩ : Sg)]) = c.segs ++ [⟨n, c.lg.last + 1, 0⟩] from rfl)
      clear hX1 hF1 hS1 hB1 hBF
      have HZ := Lib.hid (show w.heap.size ≤ wc.heap.size from HF1.out.size)
      have HOUT := Lib.hid (show ∀ i, wc.heap.size ≤ i → i ∉ WFt W g b m ve v1 from fun i hi hm => by have := HX1.out.lt i hm; omega)
      go_wp2_with fail
      go_region_held3 (fun w' => w'.cell? ⟨bw, 0, none⟩ = some (.pointer (some ⟨W, 0, none⟩)) ∧ w'.cell? ⟨B, 0, none⟩ = some (.int .i64 (n : Int)) ∧ w'.cell? ⟨B, 1, none⟩ = some (.int .i64 ((B0 : Int) + 1))) (first | exact ⟨by assumption, by assumption, by assumption⟩ | go_keep) (first
        | (go_at_call 141; refine (HHR.out _).mono ?_; rintro e w5 ⟨v5, rfl, hO5⟩; have HB5 := Lib.hid (show Below wc.heap.size wc w5 from (by first | exact hO5.1 | exact (Below.refl _ _).drew.trans hO5.1)); have HO5 := Lib.hid hO5; obtain ⟨A5, c5, rfl, hs5, ha5⟩ := hO5.sl _ rfl; have HSL5 := Lib.hid hs5; have HA5 := Lib.hid ha5; obtain ⟨q0, q1, q2⟩ := HK.out w5 HB5.out; clear hO5 hs5 ha5)
        | (go_at_call 66; refine (writing_any W A5 _ c5 _).mono ?_; rintro e w6 ⟨bw6, bb6, rfl, hc6, hd6, hl6, hl6', hb6⟩; have HB6 := Lib.hid (HB5.out.trans (hb6.mono HB5.out.size)); have HC6 := Lib.hid hc6; have HD6 := Lib.hid hd6; have HL6 := Lib.hid hl6; have HL6' := Lib.hid hl6'; have HRD6 := Lib.hid (Rd.below HSL5.out.1 hb6); obtain ⟨r0, r1, r2⟩ := HK.out w6 HB6.out; unfold Fv.val writeFv; clear hc6 hd6 hl6 hl6' hb6)
        | (go_at_call 73; refine (syncing_any W _).mono ?_; rintro e w7 ⟨bw7, rfl, hc7, hl7, hb7⟩; have HB7 := Lib.hid (HB6.out.trans (hb7.mono HB6.out.size)); have HC7 := Lib.hid hc7; have HL7 := Lib.hid hl7; have HRD7 := Lib.hid (Rd.below HRD6.out hb7); have HC67 := Lib.hid ((hb7.cell (lt_of_cell HC6.out)).trans HC6.out); have HD67 := Lib.hid ((hb7.cell (lt_of_cell HD6.out)).trans HD6.out); obtain ⟨p0, p1, p2⟩ := HK.out w7 HB7.out; unfold Fv.val syncFv; clear hc7 hl7 hb7)
        | (go_at_call 41; refine (wsrun_any (F := WFt W g b m ve v1) (w := w7.alloc (.cells #[(writeFv bw6 bb6).val, (syncFv bw7).val] 102)) ⟨m, ve, v1, xs, HX1.out.below (HB7.out.alloc HB7.out.size _), rfl⟩ (L := c.segs) (S := ⟨n, c.lg.last + 1, 0⟩) rfl hl (Nat.zero_le _) hm w7.heap.size bw6 bb6 bw7 A5 _ c5 _ ((Blk.new w7 _ _).cell 0 _ rfl) ((Blk.new w7 _ _).cell 1 _ rfl) (((alloc_below' w7 _).cell (lt_of_cell HC67.out)).trans HC67.out) (((alloc_below' w7 _).cell (lt_of_cell HD67.out)).trans HD67.out) (((alloc_below' w7 _).cell (lt_of_cell HC7.out)).trans HC7.out) (HRD7.out.below (alloc_below' w7 _)) HSL5.out.2.2.2.1 HLEN.out (fun a ha => HOUT.out _ (show wc.heap.size ≤ a.block from HA5.out a ha)) (HOUT.out _ HB7.out.size) (HOUT.out _ (Nat.le_trans HB5.out.size HL6.out)) (HOUT.out _ (Nat.le_trans HB5.out.size HL6'.out)) (HOUT.out _ (Nat.le_trans HB6.out.size HL7.out))).mono ?_; rintro e w8 ⟨rfl, hQ⟩; have HQ := Lib.hid hQ; obtain ⟨F8, hW8, hF8, hS8⟩ := hQ; obtain ⟨t0, t1, t2⟩ := HK.out _ (HB7.out.alloc HB7.out.size (.cells #[(writeFv bw6 bb6).val, (syncFv bw7).val] 102)); have u0 := hF8.cell t0 HWF.out; have u1 := hF8.cell t1 HBF.out; have u2 := hF8.cell t2 HBF.out; clear hW8 hF8 hS8 t0 t1 t2))
      go_wp2_with fail
      go_ret
      rw [HR.out]
      exact StpI.then (HF1.out.same (Dk.Fr.below (HB7.out.alloc HB7.out.size _))) HS1.out ⟨rfl, HQ.out⟩
def createFv (bn bw : Nat) : Fv := ⟨140, #[], #[.pointer (some ⟨bn, 0, none⟩), .pointer (some ⟨bw, 0, none⟩)]⟩
theorem createFv_in (bn bw : Nat) : (createFv bn bw).In := fun a w => enters_of Tryz.func140 (by kernel_rfl) rfl a w
set_option maxRecDepth 100000 in
theorem creating_any (W : Nat) (n : Int) (w : World) : Calls Tryz.prog 102 #[.pointer (some ⟨W, 0, none⟩), .int .i64 n] w fun e w' => ∃ bn bw, e = .returned (createFv bn bw).val ∧ w'.cell? ⟨bw, 0, none⟩ = some (.pointer (some ⟨W, 0, none⟩)) ∧ w'.cell? ⟨bn, 0, none⟩ = some (.int .i64 n) ∧ w.heap.size ≤ bw ∧ w.heap.size ≤ bn ∧ Below w.heap.size w w' := by
  have h1 := Blk.new w #[.pointer (some ⟨W, 0, none⟩)] 31
  have h2 := Blk.new (w.alloc (.cells #[.pointer (some ⟨W, 0, none⟩)] 31)) #[.int .i64 n] 3
  have H1 := Lib.hid ((h1.past (.cells #[.int .i64 n] 3)).cell 0 _ rfl)
  have H2 := Lib.hid (show ((w.alloc (.cells #[.pointer (some ⟨W, 0, none⟩)] 31)).alloc (.cells #[.int .i64 n] 3)).cell? ⟨w.heap.size + 1, 0, none⟩ = some (.int .i64 n) by have h3 := h2.cell 0 _ rfl; rw [show (w.alloc (.cells #[.pointer (some ⟨W, 0, none⟩)] 31)).heap.size = w.heap.size + 1 by simp] at h3; exact h3)
  have HB := Lib.hid ((alloc_below' w (.cells #[.pointer (some ⟨W, 0, none⟩)] 31)).trans ((alloc_below' (w.alloc (.cells #[.pointer (some ⟨W, 0, none⟩)] 31)) (.cells #[.int .i64 n] 3)).mono (by simp)))
  have HZ := Lib.hid (Nat.le_succ w.heap.size)
  clear h1 h2
  go_enter Tryz.func102, Tryz.ntmps102
  go_wp2
  go_ret
  exact ⟨_, _, rfl, H1.out, H2.out, Nat.le_refl _, HZ.out, HB.out⟩
end Go.Proofs.YtnppomiggajhnaaGreatDoor.Wl

namespace Go.Proofs.YtnppomiggajhnaaGreatDoor.Wl
open Go.RowKit Go.Proofs.YtnppomiggajhnaaGreatDoor.Fld
set_option linter.unusedVariables false

def rest1Fv (bw bn : Nat) : Fv := ⟨100, #[], #[.pointer (some ⟨bw, 0, none⟩), .pointer (some ⟨bn, 0, none⟩)]⟩
theorem rest1Fv_in (bw bn : Nat) : (rest1Fv bw bn).In := fun a w => enters_of Tryz.func100 (by kernel_rfl) rfl a w
theorem run_noneI (W : World) : (Instr.slice 43 (.slice none 0 0) (some (.int .i64 (0 : Int))) none none).run Tryz.prog W = .ok (.slice none 0 0) W := by go_simp
theorem run_fromI (b off n cap f : Nat) (hf : f ≤ n) (hn : n ≤ cap) (W : World) : (Instr.slice 43 (.slice (some ⟨b, off, none⟩) n cap) (some (.int .i64 (f : Int))) none none).run Tryz.prog W = .ok (.slice (some (past ⟨b, off, none⟩ cap f)) (n - f) (cap - f)) W := by
  unfold past
  by_cases h : cap = f
  · obtain rfl : n = f := by omega
    subst h
    rw [if_pos rfl]
    have h1 : (0 : Int) ≤ (cap : Int) := by omega
    go_simp
  · rw [if_neg h]
    have h1 : (0 : Int) ≤ (f : Int) := by omega
    have h2 : (f : Int) ≤ (n : Int) := by omega
    have h3 : (n : Int) ≤ (cap : Int) := by omega
    go_simp
theorem run_zeroI (a : Addr) (cap : Nat) (W : World) : (Instr.slice 43 (.slice (some a) 0 cap) (some (.int .i64 (0 : Int))) none none).run Tryz.prog W = .ok (.slice (some a) 0 cap) W := by
  have h0 : (0 : Int) ≤ (cap : Int) := by omega
  go_simp
/-- 's[f:]', wherever s lies -/
theorem tailI {w : World} {A : Option Addr} {n cap : Nat} {zs : List Int} (hr : Dk.RdI w A n zs) (hA : A = none → cap = 0) (hn : n ≤ cap) (f : Nat) (hf : f ≤ n) :
    ∃ A' cap', (∀ W, (Instr.slice 43 (.slice A n cap) (some (.int .i64 (f : Int))) none none).run Tryz.prog W = .ok (.slice A' (n - f) cap') W) ∧ (0 < n - f → ∃ b off, A' = some ⟨b, off, none⟩ ∧ ∀ i, i < n - f → w.cell? ⟨b, off + i, none⟩ = some (.int .i64 (zs.getD (f + i) 0))) := by
  rcases Nat.eq_zero_or_pos n with h0 | h0
  · subst h0
    obtain rfl : f = 0 := by omega
    cases A with
    | none =>
      obtain rfl := hA rfl
      exact ⟨none, 0, run_noneI, fun h => by omega⟩
    | some a => exact ⟨some a, cap, run_zeroI a cap, fun h => by omega⟩
  · obtain ⟨b, off, rfl, hc⟩ := hr.2.2 h0
    refine ⟨_, _, run_fromI b off n cap f hf hn, fun h1 => ?_⟩
    unfold past
    rw [if_neg (by omega)]
    refine ⟨b, off + f, rfl, fun i hi => ?_⟩
    have := hc (f + i) (by omega)
    rwa [← Nat.add_assoc] at this
theorem step_info : ∃ i z, Tryz.prog.info? 102 = some i ∧ i.zero = some z ∧ i.size = 1 ∧ z.cells.size = 1 ∧ i.bytes = 8 := by
  have h : (Tryz.prog.info? 102).map (fun i => (i.zero.map (fun z => z.cells.size), i.size, i.bytes)) = some (some 1, 1, 8) := by kernel_rfl
  cases hq : Tryz.prog.info? 102 with
  | none => simp [hq] at h
  | some i =>
    simp [hq] at h
    obtain ⟨h1, h2, h3⟩ := h
    cases hz : i.zero with
    | none => simp [hz] at h1
    | some z => exact ⟨i, z, rfl, hz, h2, by simpa [hz] using h1, h3⟩
theorem wpList_append_step {w : World} {ops : Array Oper} {rest : List Oper} {o : Oper} {a : Act} {Q : Exit → Act → World → Prop} (hgd : o.guard = none) (s x : Operand)
    (ho : o.op = .call { callee := .builtin .append, args := #[s, x], argTypes := #[99, 99] })
    (lo : Nat) (v : Value) (n : Nat) (xs : List Value) (hs : a.eval s = v) (hown : w.ownsRow lo 102 1 v n xs)
    (q : Nat) (y : Value) (hx : a.eval x = .slice (some ⟨q, 0, none⟩) 1 1) (hc : w.cell? ⟨q, 0, none⟩ = some y) (h1 : y.oneCell' = true) (hb : n ≤ 2000000) (hlo : lo ≤ w.heap.size)
    (h : ∀ v' w', w'.ownsRow lo 102 1 v' (n + 1) (xs ++ [y]) → w.grownBy w' v.ownBlock → wpList Tryz.prog ops Q rest (a.put o.dst v') w') : wpList Tryz.prog ops Q (o :: rest) a w := by
  obtain ⟨i, z, i1, i2, i3, i4, i5⟩ := step_info
  refine wpList_append_own_at w hgd s x _ ho lo 102 i z 1 8 Tryz.underlying99 i1 i2 i3 i5 i4 (by omega) v n xs hs hown ⟨q, 0, none⟩ 1 1 [y] hx rfl ?_ ?_ (by unfold maxLen; omega) (by omega) hlo ?_
  · intro j u hu
    rcases j with _ | j
    · simp at hu; subst hu; exact hc
    · simp at hu
  · intro u hu; simp at hu; subst hu; exact h1
  · intro v' w' k1 k2 _ _
    exact h v' w' k1 k2
theorem row_cell1 {w : World} {lo n cap : Nat} {A : Option Addr} {e : TypeId} {xs : List Value} (h : w.ownsRow lo e 1 (.slice A n cap) n xs) (hn : 0 < n) : ∃ q, A = some ⟨q, 0, none⟩ ∧ lo ≤ q ∧ ∀ i v, xs[i]? = some v → w.cell? ⟨q, i, none⟩ = some v := by
  rcases h.2 with ⟨he, h0⟩ | ⟨g', cap', cur, he, hg, hh, h4, h5, h6, h7⟩
  · omega
  · cases he
    refine ⟨g', rfl, hg, fun i v hi => ?_⟩
    rw [cell_of_row w g' i cur _ (0, 0) hh]
    rw [← h7, List.getElem?_take] at hi
    split at hi
    · rw [Array.getElem?_toList] at hi; exact hi
    · cases hi
/-- the steps of removeRest -/
def restFs (bw : Nat) (bs : List Nat) (ns : List Nat) : List (Fv × Sp) := (bs.zip ns).map fun p => (rest1Fv bw p.1, spDisk (Dk.stUnlink (segN p.2)))
theorem restrun_any {lo W g b lim : Nat} {F : List Nat} {w : World} {c : Ct} {t : Dk.St} (hW : WmS lo W g b lim F w c t) (A : Option Addr) (cap bw : Nat) (bs ns : List Nat) (hl : bs.length = ns.length) (hlen : bs.length ≤ 900000)
    (l0 : Nat) (hl0 : ∀ i ∈ F, i < l0) (hrow : w.ownsRow l0 102 1 (.slice A bs.length cap) bs.length (bs.map fun x => (rest1Fv bw x).val))
    (h1 : w.cell? ⟨bw, 0, none⟩ = some (.pointer (some ⟨W, 0, none⟩))) (hbs : ∀ (i x n : Nat), bs[i]? = some x → ns[i]? = some n → w.cell? ⟨x, 0, none⟩ = some (.int .i64 (n : Int)) ∧ n ≤ 99999999 ∧ x ∉ F) (o1 : bw ∉ F) :
    Calls Tryz.prog 41 #[.slice A bs.length cap] w (StpI lo W g b lim F w (spRun (ns.map fun n => spDisk (Dk.stUnlink (segN n))) c t)) := by
  have hfs : (restFs bw bs ns).map Prod.snd = ns.map fun n => spDisk (Dk.stUnlink (segN n)) := by
    unfold restFs
    rw [List.map_map]
    apply List.ext_getElem?
    intro i
    simp only [List.getElem?_map]
    by_cases hi : i < ns.length
    · rw [List.getElem?_eq_getElem (by rw [List.length_zip]; omega), List.getElem?_eq_getElem hi]
      simp
    · rw [List.getElem?_eq_none (by rw [List.length_zip]; omega), List.getElem?_eq_none (by omega)]
      rfl
  have hlf : (restFs bw bs ns).length = bs.length := by unfold restFs; rw [List.length_map, List.length_zip]; omega
  have hat : ∀ (i : Nat) (f : Fv × Sp), (restFs bw bs ns)[i]? = some f → ∃ x n : Nat, bs[i]? = some x ∧ ns[i]? = some n ∧ f = (rest1Fv bw x, spDisk (Dk.stUnlink (segN n))) := by
    intro i f hi
    unfold restFs at hi
    rw [List.getElem?_map, Option.map_eq_some_iff] at hi
    obtain ⟨p, hp, rfl⟩ := hi
    obtain ⟨e1, e2⟩ := List.getElem?_zip_eq_some.1 hp
    exact ⟨p.1, p.2, e1, e2, rfl⟩
  have hrd : 0 < bs.length → ∃ q, A = some ⟨q, 0, none⟩ ∧ q ∉ F ∧ ∀ (i x : Nat), bs[i]? = some x → w.cell? ⟨q, i, none⟩ = some (rest1Fv bw x).val := by
    intro h0
    obtain ⟨q, rfl, hq, hc⟩ := row_cell1 hrow h0
    exact ⟨q, rfl, fun hm => by have := hl0 q hm; omega, fun i x hi => hc i _ (by rw [List.getElem?_map, hi]; rfl)⟩
  rw [← hfs]
  refine run_sp A bs.length cap (restFs bw bs ns) c t hW hlf (by unfold maxLen; omega) ⟨by rw [List.length_map]; exact hlf, by unfold maxLen; omega, fun h0 => ?_⟩ (fun h0 a ha => ?_) (fun f hf => ?_) (fun _ _ _ => True) trivial (fun _ _ _ _ _ _ _ => trivial) (fun i f hi F' w' c' t' hW' hfr hsub _ => ?_)
  · obtain ⟨q, rfl, _, hc⟩ := hrd h0
    refine ⟨q, 0, rfl, fun i f hi => ?_⟩
    rw [List.getElem?_map, Option.map_eq_some_iff] at hi
    obtain ⟨f', hf', rfl⟩ := hi
    obtain ⟨x, n, e1, e2, rfl⟩ := hat i f' hf'
    rw [Nat.zero_add]
    exact hc i x e1
  · obtain ⟨q, rfl, hq, _⟩ := hrd h0
    cases ha
    exact hq
  · obtain ⟨i, hi⟩ := List.getElem?_of_mem hf
    obtain ⟨x, n, e1, e2, rfl⟩ := hat i f hi
    exact rest1Fv_in _ _
  · obtain ⟨x, n, e1, e2, rfl⟩ := hat i f hi
    obtain ⟨k1, k2, k3⟩ := hbs i x n e1 e2
    obtain ⟨m', ve', vs', xs', hX', rfl⟩ := hW'
    exact rest1_any hX' bw x (hfr.cell h1 o1) n k2 (hfr.cell k1 k3) (out_of o1 h1 hsub) (out_of k3 k1 hsub)
theorem numsN_le (fs : List Dk.Fil) : ∀ n ∈ numsN fs, n ≤ 99999999 := by
  intro n hn
  unfold numsN segsOf at hn
  obtain ⟨p, hp, rfl⟩ := List.mem_map.1 hn
  obtain ⟨f, _, hf⟩ := List.mem_filterMap.1 hp
  split at hf
  · rename_i h
    cases hf
    exact (numOf_pos h).2
  · cases hf
set_option maxRecDepth 100000 in
set_option maxHeartbeats 6400000 in
theorem removeRest_any {lo W g b lim : Nat} {m : List Dk.Ent} {ve vs : Value} {xs : List EA} {w : World} {c : Ct} {t : Dk.St} (h : WmX lo W g b lim m ve vs xs w c t) (hm : t.fs.length ≤ 900000) (hk : c.segs.length ≤ (numsN t.fs).length) :
    Calls Tryz.prog 45 #[.pointer (some ⟨W, 0, none⟩)] w (StpI lo W g b lim (WFt W g b m ve vs) w (spRest c t)) := by
  have HX := Lib.hid h
  have hal := alloc_below' w (.cells #[.pointer (some ⟨W, 0, none⟩)] 31)
  have HAL := Lib.hid hal
  have hXA := h.below hal
  have HXA := Lib.hid hXA
  have hb0 := Blk.new w #[.pointer (some ⟨W, 0, none⟩)] 31
  have HB0 := Lib.hid hb0
  have x0 := hb0.cell 0 (.pointer (some ⟨W, 0, none⟩)) rfl
  obtain ⟨SA, sc, hvs, _⟩ := row_slice h.ct.rS
  have x5 := hXA.ct.blk.cell 5 (.slice SA c.segs.length sc) (by rw [← hvs]; rfl)
  have xg := hXA.ct.blk.cell 0 (.pointer (some ⟨g, 0, none⟩)) rfl
  have HSN := Lib.hid (fun W' (hb : Below (w.alloc (.cells #[.pointer (some ⟨W, 0, none⟩)] 31)).heap.size (w.alloc (.cells #[.pointer (some ⟨W, 0, none⟩)] 31)) W') => segnums_any g b m t W' (hXA.below hb).im (hXA.below hb).base hm)
  have HR := Lib.hid (show spRest c t = spRun (((numsN t.fs).drop c.segs.length).map fun n => spDisk (Dk.stUnlink (segN n))) c t from rfl)
  have HLE := Lib.hid (numsN_le t.fs)
  have HML := Lib.hid (Nat.le_trans (numsN_len t.fs) hm)
  generalize hns : numsN t.fs = ns at *
  generalize hks : c.segs.length = k at *
  clear h hal hXA hb0 hvs hns
  go_enter Tryz.func45, Tryz.ntmps45
  go_upto_region 2 with fail
  generalize hwx : w.alloc (.cells #[.pointer (some ⟨W, 0, none⟩)] 31) = w1 at *
  generalize hB1 : w.heap.size = B1 at *
  have HWX := Lib.hid (And.intro hwx hB1)
  clear hwx hB1
  go_cut [17, 18, 19] from 6 to 18 (fun s17 s18 s19 wx => ∃ A' cap', s17 = .slice A' (ns.length - k) cap' ∧ s18 = .int .i64 ((ns.length - k : Nat) : Int) ∧ s19 = .int .i64 0 ∧ (0 < ns.length - k → ∃ bb off, A' = some ⟨bb, off, none⟩ ∧ ∀ i, i < ns.length - k → wx.cell? ⟨bb, off + i, none⟩ = some (.int .i64 ((ints ns).getD (k + i) 0))) ∧ Below w1.heap.size w1 wx)
  case first =>
    have HKX := Lib.hid (show ∀ W', Below w1.heap.size w1 W' → W'.cell? ⟨B1, 0, none⟩ = some (.pointer (some ⟨W, 0, none⟩)) ∧ W'.cell? ⟨W, 0, none⟩ = some (.pointer (some ⟨g, 0, none⟩)) ∧ W'.cell? ⟨W, 5, none⟩ = some (.slice SA k sc) from fun W' hb => ⟨(hb.cell (lt_of_cell x0)).trans x0, (hb.cell (lt_of_cell xg)).trans xg, (hb.cell (lt_of_cell x5)).trans x5⟩)
    go_wp2_with fail
    go_region_held3 (fun w' => w'.cell? ⟨B1, 0, none⟩ = some (.pointer (some ⟨W, 0, none⟩)) ∧ w'.cell? ⟨W, 0, none⟩ = some (.pointer (some ⟨g, 0, none⟩)) ∧ w'.cell? ⟨W, 5, none⟩ = some (.slice SA k sc)) (first | exact ⟨by assumption, by assumption, by assumption⟩ | go_keep) ((go_at_call 99; refine (HSN.out _ (by first | exact Below.refl _ _ | exact (Below.refl _ _).drew)).mono ?_; rintro e w2 ⟨A2, c2, rfl, hr2, hA2, hl2, _, hb2⟩; have HB2 := Lib.hid (show Below w1.heap.size w1 w2 from by first | exact hb2 | exact (Below.refl _ _).drew.trans hb2); obtain ⟨q0, q1, q2⟩ := HKX.out w2 HB2.out; obtain ⟨A3, c3, hsl, htl⟩ := tailI hr2 hA2 hl2 k hk; have HTL := Lib.hid htl; clear hr2 hA2 hl2 hb2 htl))
    go_wp2_with fail
    go_meet
    exact ⟨A3, c3, rfl, rfl, rfl, HTL.out, HB2.out⟩
  case rest =>
    obtain ⟨A3, c3, rfl, rfl, rfl, htl, hb2⟩ := hcut
    have HTL := Lib.hid htl
    have HB2 := Lib.hid hb2
    generalize hN : ns.length - k = N at *
    have hN9 : N ≤ 900000 := by have := HML.out; omega
    have HB1 := Lib.hid (HB0.out.below hb2)
    have HBW := Lib.hid (show Below w.heap.size w wc by have h1 := HWX.out.2; rw [h1]; exact HAL.out.trans (hb2.mono (by have h3 := HAL.out.size; omega)))
    have hB1w : B1 ≤ wc.heap.size := by have h1 := HBW.out.size; have h2 := HWX.out.2; omega
    clear htl hb2 x0 x5 xg
    go_wp2_with fail
    go_loopw [3, 19] (fun v iv wr => ∃ (j : Nat) (bs : List Nat), j ≤ N ∧ iv = .int .i64 (j : Int) ∧ bs.length = j ∧ wr.ownsRow wc.heap.size 102 1 v j (bs.map fun x => (rest1Fv B1 x).val) ∧ (∀ (i x : Nat), bs[i]? = some x → wc.heap.size ≤ x ∧ Blk wr x #[.int .i64 ((ints ns).getD (k + i) 0)] 3) ∧ Below wc.heap.size wc wr) (fun _ iv _ => N - (intOf iv).toNat)
    case atStart => exact ⟨0, [], Nat.zero_le _, rfl, rfl, ⟨rfl, .inl ⟨rfl, rfl⟩⟩, fun i x hi => by simp at hi, Below.refl _ _⟩
    case round =>
      obtain ⟨j, bs, hj, rfl, hbl, hrow, hbs, hbr⟩ := hrel
      obtain ⟨RA, rc, rfl, _⟩ := row_slice hrow
      have HROW := Lib.hid hrow
      have HBS := Lib.hid hbs
      have HBR := Lib.hid hbr
      have HBL := Lib.hid hbl
      by_cases hjt : j < N
      · obtain ⟨bb, off, rfl, hc⟩ := HTL.out (by omega)
        have c0 := (hbr.cell (lt_of_cell (hc j hjt))).trans (hc j hjt)
        obtain ⟨e, he⟩ : ∃ e, (ints ns).getD (k + j) 0 = e := ⟨_, rfl⟩
        rw [he] at c0
        have HE := Lib.hid he
        have j0 : (0 : Int) ≤ (j : Int) := by omega
        have j1 : (j : Int) < (N : Int) := by omega
        have hA := alloc_below' wr (.cells #[.int .i64 e] 3)
        have hB := alloc_below' (wr.alloc (.cells #[.int .i64 e] 3)) (.cells #[(rest1Fv B1 wr.heap.size).val] 102)
        have HAB := Lib.hid (hA.trans (hB.mono hA.size))
        have HBX := Lib.hid ((Blk.new wr #[.int .i64 e] 3).past (.cells #[(rest1Fv B1 wr.heap.size).val] 102))
        have HRA := Lib.hid (row_of hrow (fun i hi => (hA.trans (hB.mono hA.size)).block i (row_lo hrow i hi).2))
        have hs0 := hbr.size
        have hq := (Blk.new (wr.alloc (.cells #[.int .i64 e] 3)) #[(rest1Fv B1 wr.heap.size).val] 102).cell 0 _ rfl
        rw [show (wr.alloc (.cells #[.int .i64 e] 3)).heap.size = wr.heap.size + 1 by simp] at hq
        have HQ := Lib.hid hq
        have HSZ := Lib.hid (show wc.heap.size ≤ ((wr.alloc (.cells #[.int .i64 e] 3)).alloc (.cells #[(rest1Fv B1 wr.heap.size).val] 102)).heap.size by simp; omega)
        unfold Fv.val rest1Fv at HAB HBX HRA HQ HSZ
        clear hrow hbs hbr hbl hc he hA hB hq
        go_wp2_with (at_builtin; refine wpList_append_step rfl _ _ rfl wc.heap.size (.slice RA j rc) j (bs.map fun x => (rest1Fv B1 x).val) rfl HRA.out (wr.heap.size + 1) (rest1Fv B1 wr.heap.size).val rfl HQ.out rfl (by omega) HSZ.out ?_; intro v3 w3 hr3 hg3; obtain ⟨A4, c4, hv3, _⟩ := row_slice hr3; subst hv3; have HR3 := Lib.hid hr3; have HG3 := Lib.hid hg3; clear hr3 hg3)
        go_roundw
        case rel =>
          have hfr := (Dk.Fr.refl (Value.slice RA j rc).ownBlock.toList _).grown HG3.out (fun i hi => .inl (by simp [hi]))
          refine ⟨j + 1, bs ++ [wr.heap.size], by omega, by go_num, by rw [List.length_append, HBL.out]; rfl, ?_, fun i x hi => ?_, ?_⟩
          · rw [List.map_append]; exact HR3.out
          · rcases Nat.lt_or_ge i j with hij | hij
            · rw [List.getElem?_append_left (by rw [HBL.out]; exact hij)] at hi
              obtain ⟨k1, k2⟩ := HBS.out i x hi
              exact ⟨k1, (k2.below HAB.out).of (hfr.block x (Nat.lt_of_lt_of_le k2.lt HAB.out.size) (fun hm => row_ne HROW.out k2 (by decide) (by simpa using hm)))⟩
            · rw [List.getElem?_append_right (by rw [HBL.out]; exact hij), HBL.out] at hi
              have hij2 : i = j := by
                rcases Nat.eq_or_lt_of_le hij with h | h
                · exact h.symm
                · rw [List.getElem?_eq_none (by simp; omega)] at hi; cases hi
              subst hij2
              simp at hi
              subst hi
              rw [HE.out]
              exact ⟨hs0, HBX.out.of (hfr.block _ HBX.out.lt (fun hm => by rw [Option.mem_toList] at hm; have := (row_lo HROW.out _ hm).2; omega))⟩
          · exact (HBR.out.trans (HAB.out.mono hs0)).grown HG3.out HSZ.out fun r hr' => (row_lo HROW.out r hr').1
        case measure => simp [intOf]; omega
      · obtain rfl : j = N := by omega
        have c1 := (HB1.out.below (show Below wc.heap.size wc wr from hbr)).cell 0 (.pointer (some ⟨W, 0, none⟩)) rfl
        have HFW := Lib.hid (show ∀ i ∈ WFt W g b m ve vs, i < wc.heap.size from fun i hi => Nat.lt_of_lt_of_le (HX.out.lt i hi) HBW.out.size)
        have HXR := Lib.hid (HX.out.below (HBW.out.trans (hbr.mono HBW.out.size)))
        have hB1F : B1 ∉ WFt W g b m ve vs := fun hm => by have h1 := HX.out.lt _ hm; have h2 := HWX.out.2; omega
        have hrun := restrun_any (F := WFt W g b m ve vs) (w := wr) ⟨m, ve, vs, xs, HXR.out, rfl⟩ RA rc B1 bs (ns.drop k) (by rw [List.length_drop, hbl]; omega) (by omega) wc.heap.size HFW.out (by rw [hbl]; exact hrow) c1 (fun i x n h1 h2 => by
          obtain ⟨k1, k2⟩ := hbs i x h1
          rw [List.getElem?_drop] at h2
          have e1 : (ints ns).getD (k + i) 0 = (n : Int) := by unfold ints; rw [List.getD_eq_getElem?_getD, List.getElem?_map, h2]; rfl
          rw [e1] at k2
          exact ⟨k2.cell 0 _ rfl, HLE.out n (List.mem_of_getElem? h2), fun hm => by have := HFW.out x hm; omega⟩) hB1F
        rw [hbl] at hrun
        obtain ⟨q, hq⟩ : ∃ q, spRun ((ns.drop k).map fun n => spDisk (Dk.stUnlink (segN n))) c t = q := ⟨_, rfl⟩
        rw [hq] at hrun HR
        have HRUN := Lib.hid hrun
        have HBF := Lib.hid (HBW.out.trans (hbr.mono HBW.out.size))
        clear hrun hrow hbs hbr hbl c1 hq
        go_wp2_with fail
        refine HRUN.out.mono ?_
        rintro e w8 ⟨rfl, hQ⟩
        have HQ := Lib.hid hQ
        clear hQ
        go_wp2_with fail
        go_ret
        rw [HR.out]
        exact StpI.then (Dk.Fr.below HBF.out) (fun i hi => .inl hi) ⟨rfl, HQ.out⟩
end Go.Proofs.YtnppomiggajhnaaGreatDoor.Wl
