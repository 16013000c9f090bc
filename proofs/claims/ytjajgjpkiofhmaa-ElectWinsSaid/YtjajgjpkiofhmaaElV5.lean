/-
  Layer 10, the laws' world: note. Conditions: there are nodes; no two leaders of one term.
-/
import Derived.Test.YtjajgjpkiofhmaaElV4
namespace Go.Proofs.Ytjajgjpkiofhmaa.El
open Go.RowKit Go.Proofs.Ytjajgjpkiofhmaa.Qu Go.Proofs.Ytjajgjpkiofhmaa.Fld
set_option linter.unusedVariables false

theorem addL_len (L : List (Int × Int)) (x : Int × Int) : (addL L x).length ≤ L.length + 1 := by
  unfold addL
  split
  · omega
  · simp
theorem noteTo_len (d : Wd) : ∀ k, (noteTo d k).length ≤ d.leads.length + k
  | 0 => Nat.le_refl _
  | k + 1 => by
    have ih := noteTo_len d k
    unfold noteTo
    split
    · have := addL_len (noteTo d k) ((nd d k).term, (k : Int) + 1)
      omega
    · omega
theorem take_snoc (l : List (Int × Int)) (j : Nat) (h : j < l.length) : l.take (j + 1) = l.take j ++ [l.getD j (0, 0)] := by
  rw [List.take_succ_eq_append_getElem h, List.getD_eq_getElem?_getD, List.getElem?_eq_getElem h]; rfl
/-- the cells that note reads -/
theorem Wm.ledc {w0 : World} {vs : List Int} {w : World} {u : Wl} {d : Wd} (h : Wm w0 vs w u d) : ∃ DA dc, u.dv = .slice DA d.leads.length dc ∧ d.leads.length ≤ maxLen ∧ ∀ j, j < d.leads.length → ∃ b off, DA = some ⟨b, off, none⟩ ∧ w.cell? ⟨b, off + j * 2, none⟩ = some (.int .i64 (d.leads.getD j (0, 0)).1) ∧ w.cell? ⟨b, off + j * 2 + 1, none⟩ = some (.int .i64 (d.leads.getD j (0, 0)).2) := by
  obtain ⟨A, c, hv, h0, hm, hc⟩ := row_form h.rd
  refine ⟨A, c, hv, hm, fun j hj => ?_⟩
  cases A with
  | none => have := (h0 rfl).2; omega
  | some a =>
    obtain ⟨b, off, rfl, _, _, hcell⟩ := hc a rfl
    obtain ⟨r1, r2⟩ := rowP_at d.leads j hj
    have e2 := hcell _ _ r2
    rw [← Nat.add_assoc] at e2
    exact ⟨b, off, rfl, hcell _ _ r1, e2⟩
theorem Wm.nodc {w0 : World} {vs : List Int} {w : World} {u : Wl} {d : Wd} (h : Wm w0 vs w u d) : ∃ NA nc, u.nv = .slice NA d.ns.length nc ∧ ∀ j, j < d.ns.length → ∃ b off, NA = some ⟨b, off, none⟩ ∧ w.cell? ⟨b, off + j, none⟩ = some (.pointer (some ⟨(u.p j).g, 0, none⟩)) := by
  obtain ⟨A, c, hv, h0, hm, hc⟩ := row_form h.rn
  rw [h.pl] at hv h0
  refine ⟨A, c, hv, fun j hj => ?_⟩
  cases A with
  | none => have := (h0 rfl).2; omega
  | some a =>
    obtain ⟨b, off, rfl, _, _, hcell⟩ := hc a rfl
    exact ⟨b, off, rfl, hcell j _ (ptrs_at u j (by rw [h.pl]; exact hj))⟩
def inT (L : List (Int × Int)) (x : Int × Int) : Bool := decide (x ∈ L)
theorem inT_snoc (L : List (Int × Int)) (x y : Int × Int) : inT (L ++ [y]) x = (inT L x || (y.1 == x.1 && y.2 == x.2)) := by
  unfold inT
  rw [Bool.eq_iff_iff, Bool.or_eq_true, Bool.and_eq_true, beq_iff_eq, beq_iff_eq, decide_eq_true_iff, decide_eq_true_iff, List.mem_append, List.mem_singleton, Prod.ext_iff, @eq_comm _ y.1, @eq_comm _ y.2]
set_option maxRecDepth 100000 in
set_option maxHeartbeats 6400000 in
theorem note_any (w0 : World) (vs : List Int) (u : Wl) (d : Wd) (w : World) (h : Wm w0 vs w u d) (hn : d.ns.length ≤ 15) (hL : d.leads.length ≤ 100000) (hfine : ∀ k, k < d.ns.length → (nd d k).role = 3 → ∀ x ∈ noteTo d k, x.1 = (nd d k).term → x.2 = (k : Int) + 1) :
    Calls Try.prog 26 #[.pointer (some ⟨u.g, 0, none⟩)] w fun e w' => e = .returned (.bool true) ∧ ∃ u', u'.g = u.g ∧ Wm w0 vs w' u' { d with leads := noteTo d d.ns.length } := by
  have HW0 := Lib.hid h
  have HF := Lib.hid hfine
  have HTL := Lib.hid (noteTo_len d)
  generalize hg : u.g = g at *
  generalize hN : d.ns.length = n at *
  have HNN := Lib.hid hN
  clear h hfine hN
  go_enter Try.func26, Try.ntmps26
  go_wp2_with fail
  go_loopw [3] (fun i wr => ∃ (k : Nat) (u1 : Wl), k ≤ n ∧ i = .int .i64 (k : Int) ∧ u1.g = g ∧ Wm w0 vs wr u1 { d with leads := noteTo d k }) (fun i _ => n - (intOf i).toNat)
  case atStart => exact ⟨0, u, Nat.zero_le _, rfl, hg, HW0.out⟩
  case round =>
    obtain ⟨k, u1, hk, rfl, hug, hW⟩ := hrel
    have HW := Lib.hid hW
    obtain ⟨NA, nc, hnv, hnc⟩ := hW.nodc
    have hnv' : u1.nv = .slice NA n nc := by rw [hnv]; show Value.slice NA d.ns.length nc = _; rw [HNN.out]
    have c2 := hW.cells.2.2.1
    rw [hnv', hug] at c2
    have HNC := Lib.hid hnc
    have HNV := Lib.hid hnv'
    clear hW hnv hnc hnv'
    by_cases hlt : k < n
    · obtain ⟨nb, no, rfl, cn⟩ := HNC.out k (by show k < d.ns.length; rw [HNN.out]; exact hlt)
      have q1 : decide ((k : Int) < (n : Int)) = true := by simp; omega
      have HKN := Lib.hid (show k < d.ns.length by rw [HNN.out]; exact hlt)
      have HIM := Lib.hid (show Im wr (u1.p k) (nd d k) from HW.out.im k HKN.out)
      have HRO := Lib.hid (role_any (u1.p k) (nd d k) wr HIM.out)
      by_cases hr : (nd d k).role = 3
      · have q2 : ((nd d k).role != 3) = false := by simpa using hr
        have HHA := Lib.hid (hard_any (u1.p k) (nd d k) wr HIM.out)
        have HNX := Lib.hid (show noteTo d (k + 1) = addL (noteTo d k) ((nd d k).term, (k : Int) + 1) by rw [noteTo, if_pos hr])
        have HFK := Lib.hid (HF.out k hlt hr)
        rw [hr] at HRO
        go_wp2_with fail
        refine HRO.out.mono ?_
        rintro e w1 ⟨rfl, rfl⟩
        go_wp2_with fail
        refine HHA.out.mono ?_
        rintro e w1 ⟨rfl, hb1⟩
        have hfd : (Instr.field 23 (.agg #[.int .i64 (nd d k).term, .int .i64 (nd d k).vote]) 0).run Try.prog w1 = .ok (.int .i64 (nd d k).term) w1 := by kernel_rfl
        obtain ⟨T, hT⟩ : ∃ T, (nd d k).term = T := ⟨_, rfl⟩
        rw [hT] at hfd HNX HFK
        rw [hT]
        generalize (nd d k).vote = V at *
        have HW1 := Lib.hid (HW.out.below hb1)
        have hal := alloc_below w1 (.cells #[.int .i64 T, .int .i64 ((k : Int) + 1)] 23)
        have HWA := Lib.hid (HW1.out.below hal)
        have HBA := Lib.hid (Blk.new w1 #[.int .i64 T, .int .i64 ((k : Int) + 1)] 23)
        clear hb1 hal hT
        go_upto_block 2 with fail
        generalize hwx : w1.alloc (.cells #[.int .i64 T, .int .i64 ((k : Int) + 1)] 23) = w2 at *
        generalize hX : w1.heap.size = X at *
        have HXX := Lib.hid (And.intro hwx hX)
        clear hwx hX cn c2 hfd
        obtain ⟨DA, dc, hdv, hdm, hdc⟩ := HWA.out.ledc
        have HLED := Lib.hid hdc
        have HDV := Lib.hid hdv
        obtain ⟨nl, hnl⟩ : ∃ nl, (noteTo d k).length = nl := ⟨_, rfl⟩
        have hnl2 : nl ≤ 100015 := by have := HTL.out k; omega
        have HNL := Lib.hid hnl
        clear hdc hdm hdv hnl
        obtain ⟨wo, rfl⟩ : ∃ wo, wo = wr := ⟨_, rfl⟩
        go_wp2_with fail
        go_loopw [5, 6] (fun kn jv wr2 => ∃ j : Nat, j ≤ nl ∧ jv = .int .i64 (j : Int) ∧ kn = .bool (inT ((noteTo d k).take j) (T, (k : Int) + 1)) ∧ Below w2.heap.size w2 wr2) (fun _ jv _ => nl - (intOf jv).toNat)
        case atStart => exact ⟨0, Nat.zero_le _, rfl, rfl, Below.refl _ _⟩
        case round =>
          obtain ⟨j, hj, rfl, rfl, hb2⟩ := hrel
          have HB2 := Lib.hid hb2
          have HW2 := Lib.hid (HWA.out.below hb2)
          have HX2 := Lib.hid (HBA.out.below hb2)
          have c5 := HW2.out.cells.2.2.2.2.2
          rw [HDV.out, hug] at c5
          rw [show (⟨d.ns, d.logs, d.sent, noteTo d k⟩ : Wd).leads.length = nl from HNL.out] at c5
          have z0 := HX2.out.cell 0 (.int .i64 T) rfl
          have z1 := HX2.out.cell 1 (.int .i64 ((k : Int) + 1)) rfl
          by_cases hjt : j < nl
          · obtain ⟨b, off, rfl, x0, x1⟩ := HLED.out j (by show j < (noteTo d k).length; rw [HNL.out]; exact hjt)
            have x0 := (HB2.out.cell (lt_of_cell x0)).trans x0
            have x1 := (HB2.out.cell (lt_of_cell x1)).trans x1
            have hin : (noteTo d k).getD j (0, 0) ∈ noteTo d k := by rw [List.getD_eq_getElem?_getD, List.getElem?_eq_getElem (by rw [HNL.out]; exact hjt)]; exact List.getElem_mem _
            have hfy := HFK.out _ hin
            have hts := inT_snoc ((noteTo d k).take j) (T, (k : Int) + 1) ((noteTo d k).getD j (0, 0))
            rw [← take_snoc _ j (by rw [HNL.out]; exact hjt)] at hts
            have HTS := Lib.hid hts
            change wr.cell? ⟨b, off + j * 2, none⟩ = some (.int .i64 ((noteTo d k).getD j (0, 0)).1) at x0
            change wr.cell? ⟨b, off + j * 2 + 1, none⟩ = some (.int .i64 ((noteTo d k).getD j (0, 0)).2) at x1
            generalize (noteTo d k).getD j (0, 0) = y at *
            generalize inT ((noteTo d k).take j) (T, (k : Int) + 1) = kn at *
            have j1 : decide ((j : Int) < (nl : Int)) = true := by simp; omega
            clear hts hin
            by_cases hyT : y.1 = T
            · have hy2 := hfy hyT
              have p1 : (y.1 == T) = true := by simpa using hyT
              have p2 : (y.2 != (k : Int) + 1) = false := by simpa using hy2
              have p3 : (y.2 == (k : Int) + 1) = true := by simpa using hy2
              clear hfy hyT hy2
              go_upto_region 10 with fail
              go_quiet (fail)
              go_upto_region 12 with fail
              cases kn with
              | true =>
                go_quiet (fail)
                go_wp2_with fail
                go_roundw
                case rel => exact ⟨j + 1, by omega, by go_num, by rw [HTS.out]; rfl, HB2.out.trans ((below_dr wr _).mono HB2.out.size)⟩
                case measure => simp [intOf]; omega
              | false =>
                go_quiet (fail)
                go_wp2_with fail
                go_roundw
                case rel => exact ⟨j + 1, by omega, by go_num, by rw [HTS.out]; simp [p1, p3], HB2.out.trans ((below_dr wr _).mono HB2.out.size)⟩
                case measure => simp [intOf]; omega
            · have p1 : (y.1 == T) = false := by simpa using hyT
              clear hfy hyT
              go_upto_region 10 with fail
              go_quiet (fail)
              go_upto_region 12 with fail
              cases kn with
              | true =>
                go_quiet (fail)
                go_wp2_with fail
                go_roundw
                case rel => exact ⟨j + 1, by omega, by go_num, by rw [HTS.out]; rfl, HB2.out.trans ((below_dr wr _).mono HB2.out.size)⟩
                case measure => simp [intOf]; omega
              | false =>
                go_quiet (fail)
                go_wp2_with fail
                go_roundw
                case rel => exact ⟨j + 1, by omega, by go_num, by rw [HTS.out]; simp [p1], HB2.out.trans ((below_dr wr _).mono HB2.out.size)⟩
                case measure => simp [intOf]; omega
          · obtain rfl : j = nl := by omega
            have j1 : decide ((j : Int) < (j : Int)) = false := by simp
            have htk : (noteTo d k).take j = noteTo d k := by rw [← HNL.out, List.take_length]
            rw [htk]
            cases hin : inT (noteTo d k) (T, (k : Int) + 1) with
            | true =>
              have HNY := Lib.hid (show noteTo d (k + 1) = noteTo d k by rw [HNX.out]; unfold addL; rw [if_pos (by simpa [inT] using hin)])
              clear hin htk
              go_wp2_with fail
              go_roundw
              case rel => exact ⟨k + 1, u1, by omega, by go_num, hug, by rw [HNY.out]; exact HW2.out⟩
              case measure => simp [intOf]; omega
            | false =>
              have HNY := Lib.hid (show noteTo d (k + 1) = noteTo d k ++ [(T, (k : Int) + 1)] by rw [HNX.out]; unfold addL; rw [if_neg (by simpa [inT] using hin)])
              have HQA := Lib.hid (HW2.out.below (alloc_below wr (.cells #[.int .i64 T, .int .i64 ((k : Int) + 1)] 23)))
              have HQD := Lib.hid (HQA.out.below (below_d1 _))
              have c5a := HQA.out.cells.2.2.2.2.2
              rw [HDV.out, hug] at c5a
              rw [show (⟨d.ns, d.logs, d.sent, noteTo d k⟩ : Wd).leads.length = j from HNL.out] at c5a
              have hrd := HQD.out.rd
              rw [HDV.out] at hrd
              rw [show (⟨d.ns, d.logs, d.sent, noteTo d k⟩ : Wd).leads.length = j from HNL.out] at hrd
              have HRD := Lib.hid hrd
              have hqs : w0.heap.size ≤ wr.heap.size := HW2.out.bel.size
              clear hrd hin htk
              go_upto_region 14 with fail
              go_region_law ((refine step_append1 ehard rfl _ _ rfl w0.heap.size (.slice DA j dc) j (rowP (noteTo d k)) rfl (by exact HRD.out) wr.heap.size 1 [.int .i64 T, .int .i64 ((k : Int) + 1)] rfl rfl (by exact Blk.new wr _ _) (by simp [Value.oneCell']) (by omega) (by simp; omega) ?_; intro v3 w3 hr3 hg3 ha3; obtain ⟨A3, cc3, hv3, _⟩ := row_slice hr3; subst hv3; have HR3 := Lib.hid hr3; have HG3 := Lib.hid hg3; have HA3 := Lib.hid ha3; have hb3 := HQD.out.blkOf (HQD.out.rd) (by decide) (by rw [HDV.out, show (⟨d.ns, d.logs, d.sent, noteTo d k⟩ : Wd).leads.length = j from HNL.out]; exact hg3); have x3 := hb3.cell 5 _ rfl; have f3 := hb3.free 5; rw [hug] at x3 f3; clear hr3 hg3 ha3 hb3))
              all_goals
                go_wp2_with fail
                go_roundw
                case rel =>
                  have h9 := Wm.lead (y := (T, (k : Int) + 1)) HQD.out (by rw [show (⟨d.ns, d.logs, d.sent, noteTo d k⟩ : Wd).leads.length = j from HNL.out]; exact HR3.out) (by rw [HDV.out, show (⟨d.ns, d.logs, d.sent, noteTo d k⟩ : Wd).leads.length = j from HNL.out]; exact HG3.out) (by rw [HDV.out, show (⟨d.ns, d.logs, d.sent, noteTo d k⟩ : Wd).leads.length = j from HNL.out]; exact HA3.out)
                  rw [hug] at h9
                  refine ⟨k + 1, _, by omega, by go_num, ?_, by rw [HNY.out]; exact h9⟩
                  first | rfl | exact hug
                case measure => simp [intOf]; omega
      · have q2 : ((nd d k).role != 3) = true := by simpa using hr
        have HNX := Lib.hid (show noteTo d (k + 1) = noteTo d k by rw [noteTo, if_neg hr])
        clear hr
        go_wp2_with fail
        refine HRO.out.mono ?_
        rintro e w1 ⟨rfl, rfl⟩
        go_wp2_with fail
        go_roundw
        case rel => exact ⟨k + 1, u1, by omega, by go_num, hug, by rw [HNX.out]; exact HW.out⟩
        case measure => simp [intOf]; omega
    · obtain rfl : k = n := by omega
      have q1 : decide ((k : Int) < (k : Int)) = false := by simp
      go_wp2
      go_ret
      exact ⟨rfl, u1, hug, HW.out⟩
end Go.Proofs.Ytjajgjpkiofhmaa.El
