/-
  Layer 8: RlogNewer. Conditions: the numbers fit an int.
-/
import Derived.Test.YtafjgaapefhggaaRlgT
import Derived.Test.YtafjgaapefhggaaRlgH
import Derived.Maps.AppendAt
namespace Go.Proofs.Ytafjgaapefhggaa.Rg
open Go.RowKit Go.Proofs.Ytafjgaapefhggaa.Fld
set_option linter.unusedVariables false

theorem ptr_info : ∃ i, Try.prog.info? 22 = some i ∧ i.zero = some (.pointer none) ∧ i.size = 1 ∧ i.bytes = 8 := by
  have h : (Try.prog.info? 22).map (fun i => (i.zero, i.size, i.bytes)) = some (some (.pointer none), 1, 8) := by kernel_rfl
  cases hq : Try.prog.info? 22 with
  | none => simp [hq] at h
  | some i => simp [hq] at h; exact ⟨i, rfl, h⟩
/-- pointers to logs -/
def ptrs (gs : List Nat) : List Value := gs.map fun g => .pointer (some ⟨g, 0, none⟩)
theorem ptrs_len (gs : List Nat) : (ptrs gs).length = gs.length := by simp [ptrs]
theorem row_cells1 {w : World} {lo n g cap : Nat} {ety : TypeId} {xs : List Value} (h : w.ownsRow lo ety 1 (.slice (some ⟨g, 0, none⟩) n cap) n xs) : ∀ j v, xs[j]? = some v → w.cell? ⟨g, j, none⟩ = some v := by
  intro j v hj
  rcases h.2 with ⟨h, _⟩ | ⟨g', cap', cur, he, hg, hh, h4, h5, h6, h7⟩
  · cases h
  · injection he with e1 e2 e3
    injection e1 with e1
    injection e1 with e1
    subst e1 e3
    rw [cell_of_row w g j cur _ (0, 0) hh]
    rw [← h7, List.getElem?_take] at hj
    split at hj
    · rw [Array.getElem?_toList] at hj; exact hj
    · cases hj
theorem newer_math (a b c : Int × Int) : (newB (st0 b.1 b.2) a.1 a.2 = true ∨ newB (st0 a.1 a.2) b.1 b.2 = true) ∧ (newB (st0 b.1 b.2) a.1 a.2 = true → newB (st0 c.1 c.2) b.1 b.2 = true → newB (st0 c.1 c.2) a.1 a.2 = true) := by
  have e : ∀ p q : Int × Int, newB (st0 p.1 p.2) q.1 q.2 = true ↔ p.2 < q.2 ∨ (q.2 = p.2 ∧ p.1 ≤ q.1) := by
    intro p q
    have l1 : (st0 p.1 p.2).lt = p.2 := by simp [St.lt, st0, lastT]
    have l2 : (st0 p.1 p.2).last = p.1 := by simp [St.last, st0]
    unfold newB
    rw [l1, l2, Bool.or_eq_true, Bool.and_eq_true, decide_eq_true_iff, decide_eq_true_iff, beq_iff_eq]
  rw [e, e, e, e]
  omega
theorem ptrs_snoc (gs : List Nat) (g : Nat) : ptrs (gs ++ [g]) = ptrs gs ++ [.pointer (some ⟨g, 0, none⟩)] := by simp [ptrs]
theorem wpList_append_ptr {w : World} {ops : Array Oper} {rest : List Oper} {o : Oper} {a : Act} {Q : Exit → Act → World → Prop} (hgd : o.guard = none) (s x : Operand)
    (ho : o.op = .call { callee := .builtin .append, args := #[s, x], argTypes := #[51, 51] })
    (base : Nat) (v : Value) (k : Nat) (vs : List Value) (z : Value) (hz1 : z.oneCell' = true) (hs : a.eval s = v) (hown : w.ownsRow base 22 1 v k vs) (g : Nat) (hx : a.eval x = .slice (some ⟨g, 0, none⟩) 1 1) (hc : w.cell? ⟨g, 0, none⟩ = some z)
    (hk : k + 1 ≤ 1099511627776) (hb : base ≤ w.heap.size)
    (h : ∀ v' w', w'.ownsRow base 22 1 v' (k + 1) (vs ++ [z]) → w.grownBy w' v.ownBlock → wpList Try.prog ops Q rest (a.put o.dst v') w') : wpList Try.prog ops Q (o :: rest) a w := by
  obtain ⟨i, hi, hz, hsz, hby⟩ := ptr_info
  refine wpList_append_own_at w hgd s x _ ho base 22 i _ 1 8 Try.underlying51 hi hz hsz hby rfl (by omega) v k vs hs hown ⟨g, 0, none⟩ 1 1 [z] hx rfl ?_ ?_ (by unfold maxLen; omega) (by omega) hb ?_
  · intro j u hu
    rcases j with _ | j
    · simp at hu; subst hu; exact hc
    · simp at hu
  · intro u hu; simp at hu; subst hu; exact hz1
  · intro v' w' h1 h2 _ _
    exact h v' w' h1 h2
theorem row_below1 {w w' : World} {lo n : Nat} {ety : TypeId} {v : Value} {xs : List Value} (h : w.ownsRow lo ety 1 v n xs) (hb : Below w.heap.size w w') : w'.ownsRow lo ety 1 v n xs := row_of h (fun i hi => hb.block i (row_lo h i hi).2)
set_option maxRecDepth 100000 in
set_option maxHeartbeats 6400000 in
theorem newer_walk (a1 a2 b1 b2 c1 c2 : Int) (w : World) : Calls Try.prog 8 #[.agg #[.int .i64 a1, .int .i64 a2], .agg #[.int .i64 b1, .int .i64 b2], .agg #[.int .i64 c1, .int .i64 c2]] w fun e w' => e = .returned (.bool true) ∧ Below w.heap.size w w' := by
  obtain ⟨wa, hwa⟩ : ∃ wa, w.alloc (.cells #[.int .i64 a1, .int .i64 a2] 28) = wa := ⟨_, rfl⟩
  obtain ⟨wb, hwb⟩ : ∃ wb, wa.alloc (.cells #[.int .i64 b1, .int .i64 b2] 28) = wb := ⟨_, rfl⟩
  obtain ⟨wc, hwc⟩ : ∃ wc, wb.alloc (.cells #[.int .i64 c1, .int .i64 c2] 28) = wc := ⟨_, rfl⟩
  obtain ⟨wd, hwd⟩ : ∃ wd, wc.alloc (.cells #[.int .i64 a1, .int .i64 a2, .int .i64 b1, .int .i64 b2, .int .i64 c1, .int .i64 c2] 28) = wd := ⟨_, rfl⟩
  have za : wa.heap.size = w.heap.size + 1 := by rw [← hwa]; simp
  have zb : wb.heap.size = w.heap.size + 2 := by rw [← hwb]; simp [za]
  have zc : wc.heap.size = w.heap.size + 3 := by rw [← hwc]; simp [zb]
  have KA := Lib.hid (show Blk wd w.heap.size #[.int .i64 a1, .int .i64 a2] 28 by rw [← hwd, ← hwc, ← hwb, ← hwa]; exact (((Blk.new w _ _).past _).past _).past _)
  have KB := Lib.hid (show Blk wd (w.heap.size + 1) #[.int .i64 b1, .int .i64 b2] 28 by rw [← hwd, ← hwc, ← hwb, ← za]; exact ((Blk.new wa _ _).past _).past _)
  have KC := Lib.hid (show Blk wd (w.heap.size + 2) #[.int .i64 c1, .int .i64 c2] 28 by rw [← hwd, ← hwc, ← zb]; exact (Blk.new wb _ _).past _)
  have KD := Lib.hid (show Blk wd (w.heap.size + 3) #[.int .i64 a1, .int .i64 a2, .int .i64 b1, .int .i64 b2, .int .i64 c1, .int .i64 c2] 28 by rw [← hwd, ← zc]; exact Blk.new wc _ _)
  have HBD := Lib.hid (show Below w.heap.size w wd by
    rw [← hwd, ← hwc, ← hwb, ← hwa]
    exact ((((Below.refl _ _).alloc (Nat.le_refl _) _).alloc (by simp) _).alloc (by simp; omega) _).alloc (by simp; omega) _)
  have HW := Lib.hid (And.intro hwa (And.intro hwb (And.intro hwc hwd)))
  have KA1 := Lib.hid (show wc.cell? ⟨w.heap.size, 0, none⟩ = some (.int .i64 a1) ∧ wc.cell? ⟨w.heap.size, 1, none⟩ = some (.int .i64 a2) ∧ wc.cell? ⟨w.heap.size + 1, 0, none⟩ = some (.int .i64 b1) ∧ wc.cell? ⟨w.heap.size + 1, 1, none⟩ = some (.int .i64 b2) ∧ wc.cell? ⟨w.heap.size + 2, 0, none⟩ = some (.int .i64 c1) ∧ wc.cell? ⟨w.heap.size + 2, 1, none⟩ = some (.int .i64 c2) by
    have q1 : Blk wc w.heap.size #[.int .i64 a1, .int .i64 a2] 28 := by rw [← hwc, ← hwb, ← hwa]; exact ((Blk.new w _ _).past _).past _
    have q2 : Blk wc (w.heap.size + 1) #[.int .i64 b1, .int .i64 b2] 28 := by rw [← hwc, ← hwb, ← za]; exact (Blk.new wa _ _).past _
    have q3 : Blk wc (w.heap.size + 2) #[.int .i64 c1, .int .i64 c2] 28 := by rw [← hwc, ← zb]; exact Blk.new wb _ _
    exact ⟨q1.cell 0 _ rfl, q1.cell 1 _ rfl, q2.cell 0 _ rfl, q2.cell 1 _ rfl, q3.cell 0 _ rfl, q3.cell 1 _ rfl⟩)
  clear hwa hwb hwc hwd
  obtain ⟨k0, k1, k2, k3, k4, k5⟩ := KA1.out
  go_enter Try.func8, Try.ntmps8
  go_wp2_with fail
  obtain ⟨e1, e2, e3, e4⟩ := HW.out
  rw [e1, e2, e3, e4]
  clear e1 e2 e3 e4 k0 k1 k2 k3 k4 k5
  obtain ⟨D, hD⟩ : ∃ D, w.heap.size + 1 + 1 + 1 = D := ⟨_, rfl⟩
  have KD1 := Lib.hid (show Blk wd D #[.int .i64 a1, .int .i64 a2, .int .i64 b1, .int .i64 b2, .int .i64 c1, .int .i64 c2] 28 by rw [← hD]; exact KD.out)
  rw [hD]
  have HDD := Lib.hid hD
  clear hD
  obtain ⟨ps, hps⟩ : ∃ ps : List (Int × Int), [(a1, a2), (b1, b2), (c1, c2)] = ps := ⟨_, rfl⟩
  have HPS := Lib.hid hps
  have HPC := Lib.hid (show ∀ i, i < 3 → wd.cell? ⟨D, i * 2, none⟩ = some (.int .i64 (ps.getD i (0, 0)).1) ∧ wd.cell? ⟨D, i * 2 + 1, none⟩ = some (.int .i64 (ps.getD i (0, 0)).2) by
    intro i hi
    rw [← hps]
    have hi' : i = 0 ∨ i = 1 ∨ i = 2 := by omega
    rcases hi' with rfl | rfl | rfl
    · exact ⟨KD1.out.cell 0 _ rfl, KD1.out.cell 1 _ rfl⟩
    · exact ⟨KD1.out.cell 2 _ rfl, KD1.out.cell 3 _ rfl⟩
    · exact ⟨KD1.out.cell 4 _ rfl, KD1.out.cell 5 _ rfl⟩)
  clear hps
  go_loopw [8, 9, 10, 11, 12] (fun lv iv _ _ _ wr => ∃ (i : Nat) (gs : List Nat), i ≤ 3 ∧ iv = .int .i64 i ∧ gs.length = i ∧ wr.ownsRow wd.heap.size 22 1 lv i (ptrs gs) ∧ (∀ j, j < i → Im w.heap.size wr (gs.getD j 0) (st0 (ps.getD j (0, 0)).1 (ps.getD j (0, 0)).2) (.slice none 0 0) []) ∧ Below wd.heap.size wd wr) (fun _ iv _ _ _ _ => 3 - (intOf iv).toNat)
  case atStart => exact ⟨0, [], by omega, rfl, rfl, row_nil _ _ _ _, fun j hj => by omega, Below.refl _ _⟩
  case round =>
    obtain ⟨i, gs, hi3, rfl, hgl, hrow, him, hbr⟩ := hrel
    have HGL := Lib.hid hgl
    have HROW := Lib.hid hrow
    have HIMS := Lib.hid him
    have HBR := Lib.hid hbr
    have HWR := Lib.hid (HBD.out.trans (hbr.mono HBD.out.size))
    clear hgl him hbr
    obtain ⟨LA, lc, rfl, hlf, hlnc, hlcm, hlnil⟩ := row_slice hrow
    clear hrow
    by_cases h3 : i < 3
    · have hc0 := (HPC.out i h3).1
      have hc1 := (HPC.out i h3).2
      have KP := Lib.hid (show ∀ W, Below wd.heap.size wd W → W.cell? ⟨D, i * 2, none⟩ = some (.int .i64 (ps.getD i (0, 0)).1) ∧ W.cell? ⟨D, i * 2 + 1, none⟩ = some (.int .i64 (ps.getD i (0, 0)).2) by
        intro W hW
        have hlt : D < wd.heap.size := Blk.lt KD1.out
        exact ⟨by rw [hW.cell hlt]; exact (HPC.out i h3).1, by rw [hW.cell hlt]; exact (HPC.out i h3).2⟩)
      clear hc0 hc1
      obtain ⟨q0, q1⟩ := KP.out wr HBR.out
      obtain ⟨p, hp⟩ : ∃ p, ps.getD i (0, 0) = p := ⟨_, rfl⟩
      have HPP := Lib.hid hp
      rw [hp] at q0 q1 KP
      clear hp
      have i0 : (0 : Int) ≤ (i : Int) := by omega
      have i1 : (i : Int) < 3 := by omega
      by_cases hv : okN p.1 = true ∧ okN p.2 = true
      · have HF := Lib.hid (fun W (hW : Still wr W) => fresh_ok w p.1 p.2 W (HWR.out.trans (below_still hW HWR.out.size)) hv.1 hv.2)
        clear hv
        go_wp2_with fail
        go_region_held3 (fun w' => w'.cell? ⟨D, i * 2, none⟩ = some (.int .i64 p.1) ∧ w'.cell? ⟨D, i * 2 + 1, none⟩ = some (.int .i64 p.2)) (first | exact ⟨by assumption, by assumption⟩ | go_keep) ((go_at_call 10; refine (HF.out _ (by first | exact Still.refl _ | exact (Still.refl _).drew)).mono ?_; rintro e w5 ⟨g, r, rfl, hpr, hb5, hg5, _⟩; have HIM5 := Lib.hid hpr.im; have HB5 := Lib.hid (show Below wr.heap.size wr w5 by exact (below_still (show Still wr _ by first | exact Still.refl _ | exact (Still.refl _).drew) (Nat.le_refl _)).trans hb5); obtain ⟨d0, d1⟩ := KP.out w5 (HBR.out.trans (HB5.out.mono HBR.out.size)); clear hpr hb5 hg5))
        all_goals
          have HA5 := Lib.hid (show Below wr.heap.size wr (w5.alloc (.cells #[.pointer (some ⟨g, 0, none⟩)] 22)) from HB5.out.alloc HB5.out.size _)
          have HRA := Lib.hid (row_below1 HROW.out HA5.out)
          go_wp2_with (at_builtin; refine wpList_append_ptr rfl _ _ rfl wd.heap.size (.slice LA i lc) i (ptrs gs) (.pointer (some ⟨g, 0, none⟩)) rfl rfl HRA.out w5.heap.size rfl ((Blk.new w5 _ _).cell 0 _ rfl) (by omega) (by exact (HBR.out.trans (HA5.out.mono HBR.out.size)).size) ?_; intro v7 w7 hr7 hg7; have HR7 := Lib.hid hr7; have HG7 := Lib.hid hg7; clear hr7 hg7)
          have HFR := Lib.hid ((Dk.Fr.refl (Value.slice LA i lc).ownBlock.toList _).grown HG7.out (fun i hi => .inl (by simp [hi])))
          have HN8 := Lib.hid (show Not8 (w5.alloc (.cells #[.pointer (some ⟨g, 0, none⟩)] 22)) (Value.slice LA i lc).ownBlock.toList from fun k hk cs hb => row_ne HRA.out hb (by decide) (by simpa using hk))
          have HI7 := Lib.hid (show ∀ k s, Im w.heap.size (w5.alloc (.cells #[.pointer (some ⟨g, 0, none⟩)] 22)) k s (.slice none 0 0) [] → Im w.heap.size w7 k s (.slice none 0 0) [] from fun k s hk => hk.fr HFR.out (fun j hj hm => by
            have hjk : j = k := by simpa [Value.ownBlock] using hj
            subst hjk
            exact row_ne HRA.out hk.blk (by decide) (by simpa using hm)) HN8.out)
          go_wp2
          go_roundw
          case rel =>
            refine ⟨i + 1, gs ++ [g], by omega, by go_num, by rw [List.length_append, HGL.out]; rfl, by rw [ptrs_snoc]; exact HR7.out, ?_, ?_⟩
            · intro j hj
              by_cases hji : j < i
              · rw [show (gs ++ [g]).getD j 0 = gs.getD j 0 by rw [List.getD_eq_getElem?_getD, List.getElem?_append_left (by rw [HGL.out]; exact hji), ← List.getD_eq_getElem?_getD]]
                exact HI7.out _ _ ((HIMS.out j hji).below HA5.out)
              · obtain rfl : j = i := by omega
                rw [HPP.out, show (gs ++ [g]).getD j 0 = g by rw [List.getD_eq_getElem?_getD, List.getElem?_append_right (by rw [HGL.out]; omega), HGL.out, Nat.sub_self]; rfl]
                exact HI7.out _ _ (HIM5.out.below (alloc_below' _ _))
            · exact Dk.Fr.to_below (HBR.out.trans (HA5.out.mono HBR.out.size)) HFR.out (fun k hk => (row_lo HRA.out k (by simpa using hk)).1)
          case measure => simp [intOf]; omega
      · have HF := Lib.hid (fun W => fresh_bad p.1 p.2 W (by
          cases h1 : okN p.1 with
          | false => exact .inl rfl
          | true =>
            cases h2 : okN p.2 with
            | false => exact .inr rfl
            | true => exact absurd ⟨h1, h2⟩ hv))
        clear hv
        go_wp2_with fail
        go_region_held3 (fun w' => w'.cell? ⟨D, i * 2, none⟩ = some (.int .i64 p.1) ∧ w'.cell? ⟨D, i * 2 + 1, none⟩ = some (.int .i64 p.2)) (first | exact ⟨by assumption, by assumption⟩ | go_keep) ((go_at_call 10; refine (HF.out _).mono ?_; rintro e w5 ⟨rfl, rfl⟩))
        all_goals
          go_wp2
          go_ret
          exact ⟨rfl, by first | exact HWR.out | exact HWR.out.drew⟩
    · obtain rfl : i = 3 := by omega
      obtain ⟨x, y, z, rfl⟩ : ∃ x y z, gs = [x, y, z] := by
        have := HGL.out
        rcases gs with _ | ⟨x, _ | ⟨y, _ | ⟨z, _ | ⟨u, t⟩⟩⟩⟩ <;> simp at this
        exact ⟨x, y, z, rfl⟩
      cases LA with
      | none => have := (hlnil rfl).2; omega
      | some la =>
      obtain ⟨lg, lof, lsp⟩ := la
      obtain ⟨hl1, hl2⟩ := hlf _ rfl
      simp only at hl1 hl2
      subst hl1 hl2
      clear hlf hlnil
      have HX := Lib.hid (show Im w.heap.size wr x (st0 a1 a2) (.slice none 0 0) [] by have := HIMS.out 0 (by omega); rw [← HPS.out] at this; exact this)
      have HY := Lib.hid (show Im w.heap.size wr y (st0 b1 b2) (.slice none 0 0) [] by have := HIMS.out 1 (by omega); rw [← HPS.out] at this; exact this)
      have HZ := Lib.hid (show Im w.heap.size wr z (st0 c1 c2) (.slice none 0 0) [] by have := HIMS.out 2 (by omega); rw [← HPS.out] at this; exact this)
      have HC := Lib.hid (show ∀ W, Still wr W → W.cell? ⟨lg, 0, none⟩ = some (.pointer (some ⟨x, 0, none⟩)) ∧ W.cell? ⟨lg, 1, none⟩ = some (.pointer (some ⟨y, 0, none⟩)) ∧ W.cell? ⟨lg, 2, none⟩ = some (.pointer (some ⟨z, 0, none⟩)) ∧ W.cell? ⟨w.heap.size, 0, none⟩ = some (.int .i64 a1) ∧ W.cell? ⟨w.heap.size, 1, none⟩ = some (.int .i64 a2) ∧ W.cell? ⟨w.heap.size + 1, 0, none⟩ = some (.int .i64 b1) ∧ W.cell? ⟨w.heap.size + 1, 1, none⟩ = some (.int .i64 b2) by
        intro W hW
        have ka := (Blk.below KA.out HBR.out).still hW
        have kb := (Blk.below KB.out HBR.out).still hW
        refine ⟨?_, ?_, ?_, ka.cell 0 _ rfl, ka.cell 1 _ rfl, kb.cell 0 _ rfl, kb.cell 1 _ rfl⟩
        · rw [hW.cell]; exact row_cells1 HROW.out 0 _ rfl
        · rw [hW.cell]; exact row_cells1 HROW.out 1 _ rfl
        · rw [hW.cell]; exact row_cells1 HROW.out 2 _ rfl)
      have HN := Lib.hid (show ∀ k s, Im w.heap.size wr k s (.slice none 0 0) [] → ∀ (i t : Int) W, Still wr W → Calls Try.prog 21 #[.pointer (some ⟨k, 0, none⟩), .int .i64 i, .int .i64 t] W fun e w' => e = .returned (.bool (newB s i t)) ∧ Still wr w' by
        intro k s hk i t W hW
        obtain ⟨A, cap, _, hLo, _⟩ := hk.slice
        refine ((hLo.still hW).newer_dr i t).mono ?_
        rintro e w' ⟨rfl, m, rfl⟩
        exact ⟨rfl, hW.trans (still_drewN _ _)⟩)
      have HM := Lib.hid (newer_math (a1, a2) (b1, b2) (c1, c2))
      have N1 := Lib.hid (HN.out y _ HY.out a1 a2)
      have N2 := Lib.hid (HN.out x _ HX.out b1 b2)
      have N3 := Lib.hid (HN.out z _ HZ.out b1 b2)
      have N4 := Lib.hid (HN.out z _ HZ.out a1 a2)
      simp only at HM
      generalize newB (st0 b1 b2) a1 a2 = ab at *
      generalize newB (st0 a1 a2) b1 b2 = ba at *
      generalize newB (st0 c1 c2) b1 b2 = bc at *
      generalize newB (st0 c1 c2) a1 a2 = ac at *
      obtain ⟨x0, x1, x2, x3, x4, x5, x6⟩ := HC.out wr (Still.refl _)
      go_wp2_with fail
      go_region_held3 (fun w' => w'.cell? ⟨lg, 1, none⟩ = some (.pointer (some ⟨y, 0, none⟩)) ∧ w'.cell? ⟨w.heap.size, 0, none⟩ = some (.int .i64 a1) ∧ w'.cell? ⟨w.heap.size, 1, none⟩ = some (.int .i64 a2)) (first | exact ⟨by assumption, by assumption, by assumption⟩ | go_keep) ((go_at_call 21; refine (N1.out _ (by first | exact Still.refl _ | exact (Still.refl _).drew)).mono ?_; rintro e z1 ⟨rfl, hs⟩; have S1 := Lib.hid hs; obtain ⟨y0, y1, y2, y3, y4, y5, y6⟩ := HC.out z1 hs; clear hs))
      go_wp2_with fail
      go_region_held3 (fun w' => w'.cell? ⟨lg, 0, none⟩ = some (.pointer (some ⟨x, 0, none⟩)) ∧ w'.cell? ⟨w.heap.size + 1, 0, none⟩ = some (.int .i64 b1) ∧ w'.cell? ⟨w.heap.size + 1, 1, none⟩ = some (.int .i64 b2)) (first | exact ⟨by assumption, by assumption, by assumption⟩ | go_keep) ((go_at_call 21; refine (N2.out _ (by first | exact S1.out | exact S1.out.drew)).mono ?_; rintro e z2 ⟨rfl, hs⟩; have S2 := Lib.hid hs; obtain ⟨u0, u1, u2, u3, u4, u5, u6⟩ := HC.out z2 hs; clear hs))
      go_wp2_with fail
      go_region_held3 (fun w' => w'.cell? ⟨lg, 2, none⟩ = some (.pointer (some ⟨z, 0, none⟩)) ∧ w'.cell? ⟨w.heap.size + 1, 0, none⟩ = some (.int .i64 b1) ∧ w'.cell? ⟨w.heap.size + 1, 1, none⟩ = some (.int .i64 b2)) (first | exact ⟨by assumption, by assumption, by assumption⟩ | go_keep) ((go_at_call 21; refine (N3.out _ (by first | exact S2.out | exact S2.out.drew)).mono ?_; rintro e z3 ⟨rfl, hs⟩; have S3 := Lib.hid hs; obtain ⟨v0, v1, v2, v3, v4, v5, v6⟩ := HC.out z3 hs; clear hs))
      go_wp2_with fail
      go_region_held3 (fun w' => w'.cell? ⟨lg, 2, none⟩ = some (.pointer (some ⟨z, 0, none⟩)) ∧ w'.cell? ⟨w.heap.size, 0, none⟩ = some (.int .i64 a1) ∧ w'.cell? ⟨w.heap.size, 1, none⟩ = some (.int .i64 a2)) (first | exact ⟨by assumption, by assumption, by assumption⟩ | go_keep) ((go_at_call 21; refine (N4.out _ (by first | exact S3.out | exact S3.out.drew)).mono ?_; rintro e z4 ⟨rfl, hs⟩; have S4 := Lib.hid hs; obtain ⟨t0, t1, t2, t3, t4, t5, t6⟩ := HC.out z4 hs; clear hs))
      have HE := Lib.hid (show Below w.heap.size w z4 from HWR.out.trans (below_still S4.out HWR.out.size))
      cases ab <;> cases ba <;> cases bc <;> cases ac
      all_goals
        first
          | (exfalso; revert HM; intro HM; have := HM.out; revert this; decide)
          | (go_wp2
             go_ret
             exact ⟨rfl, by first | exact HE.out | exact HE.out.drew⟩)
end Go.Proofs.Ytafjgaapefhggaa.Rg
