/-
  Several texts in one: Layer 12, a node that does not lead: regroup over a log with changes: the walk. Conditions: the node lies in memory and has no turns yet. Layer 12: New, of a node in any group: the walk. Conditions: what comes in can be read; at most a million entries.
-/
import Derived.Test.YtjadfpcipicckaaGreatJRfW
import Derived.Test.YtjadfpcipicckaaGreatJRfNt
import Derived.Test.YtjadfpcipicckaaGreatJRfP
namespace Go.Proofs.YtjadfpcipicckaaGreat.Rf
open Go.RowKit Go.Shelf Go.Proofs.YtjadfpcipicckaaGreat.Fld
open Go.Proofs.YtjadfpcipicckaaGreat.Qu (RdI)
set_option linter.unusedVariables false

def RegIs (lo : Nat) (w : World) (b : FB) (s : FS) (e : Ending) (w' : World) : Prop := e = .returned (.tuple #[]) ∧ ∃ b' e', b'.nb = b.nb ∧ b'.g = b.g ∧ Fo lo w' b' { s with e := e' } ∧ e'.term = s.e.term ∧ e'.vote = s.e.vote ∧ Dk.Fr [b.nb, b.p.g, b.p.b] w w'
set_option maxRecDepth 100000 in
set_option maxHeartbeats 12800000 in
theorem fregroup {lo : Nat} {w : World} {b : FB} {s : FS} (frm : Int) (h : Fo lo w b s) (hT : b.T = .slice none 0 0) (hts : b.ts = []) : Calls Tryz.prog 20 #[.pointer (some ⟨b.nb, 0, none⟩), .int .i64 frm] w (RegIs lo w b s) := by
  have hb0 := Rg.alloc_below' w (.cells #[.int .i64 frm] 3)
  have hk0 := Rg.Blk.new w #[.int .i64 frm] 3
  have h0 := h.below hb0
  have hset := h0.none9 hT hts
  have HSET := Lib.hid hset.1
  have HF2 := Lib.hid ((Dk.Fr.below (S := [b.nb]) hb0).same hset.2)
  have c9 := h0.c9
  rw [hT] at c9
  have f9 := h0.free 9
  have hne : w.heap.size ≠ b.nb := by have := h.blk.lt; omega
  have HK1 := Lib.hid (show Rg.Blk ((w.alloc (.cells #[.int .i64 frm] 3)).setCell ⟨b.nb, 9, none⟩ (.slice none 0 0)) w.heap.size #[.int .i64 frm] 3 from Qu.Blk.far hk0 _ (Ne.symm hne) _)
  have HTN := Lib.hid (And.intro hT hts)
  have HSZ := Lib.hid (show w.heap.size ≤ ((w.alloc (.cells #[.int .i64 frm] 3)).setCell ⟨b.nb, 9, none⟩ (.slice none 0 0)).heap.size from ((Dk.Fr.below (S := [b.nb]) hb0).same hset.2).size)
  clear h hb0 hk0 h0 hset hT hts
  go_enter Tryz.func20, Tryz.ntmps20
  go_wp2_with fail
  refine (delete0 _ _).mono ?_
  rintro e w1 ⟨rfl, rfl⟩
  go_wp2_with fail
  generalize (w.alloc (.cells #[.int .i64 frm] 3)).setCell ⟨b.nb, 9, none⟩ (.slice none 0 0) = w2 at *
  have d3 := HSET.out.c3
  have d0 := HK1.out.cell 0 (.int .i64 frm) rfl
  have HL := Lib.hid (fun W (hW : Below w2.heap.size w2 W) => HSET.out.last' W hW)
  have HGT := Lib.hid (fun W (hW : Below w2.heap.size w2 W) => HSET.out.get frm s.g.last W hW)
  have HB0 := Lib.hid (Below.refl w2.heap.size w2).drew
  clear c9 f9 hne
  go_region_held3 (fun w' => w'.cell? ⟨b.nb, 3, none⟩ = some (.pointer (some ⟨b.g, 0, none⟩)) ∧ w'.cell? ⟨w.heap.size, 0, none⟩ = some (.int .i64 frm)) (first | exact ⟨by assumption, by assumption⟩ | go_keep) (first
    | (go_at_call 22; refine (HL.out _ (by exact HB0.out)).mono ?_; rintro e w' ⟨rfl, m, rfl⟩; have k3 : (w2.drewN (1 + m)).cell? ⟨b.nb, 3, none⟩ = _ := d3; have k0 : (w2.drewN (1 + m)).cell? ⟨w.heap.size, 0, none⟩ = _ := d0; have HBm := Lib.hid (Qu.below_dr w2 (1 + m)))
    | (go_at_call 50; refine (HGT.out _ (by exact HBm.out)).mono ?_; rintro e w3 ⟨v, ys, rfl, he, hrow, hd, hb⟩; obtain ⟨A, cap, hv, _⟩ := Rg.row_slice hrow; subst hv; have k3 := (hb.cell (p := ⟨b.nb, 3, none⟩) (lt_of_cell k3)).trans k3; have k0 := (hb.cell (p := ⟨w.heap.size, 0, none⟩) (lt_of_cell k0)).trans k0; have HB3 := Lib.hid (HBm.out.trans (hb.mono HBm.out.size)); have HE := Lib.hid he; have HROW := Lib.hid hrow; have HD := Lib.hid hd; clear he hrow hd hb))
  have HS3 := Lib.hid (HSET.out.below HB3.out)
  have HF3 := Lib.hid (HF2.out.same (Dk.Fr.below HB3.out))
  have HKI := Lib.hid (show ∀ k, k < ys.length → (ys.getD k Rg.ea0).e.idx ≤ s.g.last ∧ (ys.getD k Rg.ea0).e.data.length ≤ 4096 by
    intro k hk
    have hm : (ys.getD k Rg.ea0).e ∈ Rg.ens ys := by
      rw [← Rg.ens_at ys k hk, List.getD_eq_getElem?_getD, List.getElem?_eq_getElem (by rw [Rg.ens_len]; exact hk)]
      exact List.getElem_mem _
    rw [HE.out] at hm
    exact es_last HS3.out.lg.ok (getE_mem hm))
  have HYN := Lib.hid (show ys.length ≤ 1000000 by
    rw [← Rg.ens_len, HE.out]
    have h1 := getE_len s.g frm s.g.last
    have h2 := HS3.out.few
    have h3 : s.g.es.length = b.xs.length := by rw [← HS3.out.lg.es, Rg.ens_len]
    omega)
  have HRB := Lib.hid (fun (wr : World) (hf : Dk.Fr [b.nb] w3 wr) => ys_at HS3.out hf HROW.out HD.out)
  have HYL := Lib.hid (show ∀ k, k < ys.length → ys.getD k Rg.ea0 ∈ ys from fun k hk => by rw [List.getD_eq_getElem?_getD, List.getElem?_eq_getElem hk]; exact List.getElem_mem _)
  clear k3 k0
  generalize hyn : ys.length = yn at *
  go_wp2
  go_loopw [27] (fun i wr => ∃ (k : Nat) (T : Value) (ts : List TA), k ≤ yn ∧ i = .int .i64 k ∧ Fo lo wr { b with T := T, ts := ts } s ∧ Dk.Fr [b.nb] w3 wr ∧ (∀ i, T.ownBlock = some i → w3.heap.size ≤ i) ∧ ts.length ≤ k) (fun i _ => yn - (intOf i).toNat)
  case atStart => exact ⟨0, b.T, b.ts, Nat.zero_le _, rfl, HS3.out, Dk.Fr.refl _ _, (fun i hi => by rw [HTN.out.1] at hi; cases hi), by rw [HTN.out.2]; exact Nat.le_refl _⟩
  case round =>
    obtain ⟨k, T, ts, hk, rfl, hF, hf, hTn, htl⟩ := hrel
    have HF := Lib.hid hF
    have HFR := Lib.hid hf
    have HTW := Lib.hid hTn
    clear hF hf hTn
    by_cases hlt : k < yn
    · obtain ⟨bk, off, rfl, q0, q1, q2, q3⟩ := (HRB.out wr HFR.out).elem k hlt
      have hxd := (HRB.out wr HFR.out).dat _ (HYL.out k hlt)
      obtain ⟨hil, hdl⟩ := HKI.out k hlt
      generalize ys.getD k Rg.ea0 = x at *
      obtain ⟨⟨idx, term, kind, data⟩, XA, xc⟩ := x
      simp only at q0 q1 q2 q3 hxd hil hdl
      have HXD := Lib.hid hxd
      have HIL := Lib.hid hil
      clear hxd hil
      have hyx : yn ≤ 1000000 := HYN.out
      have k0 : (0 : Int) ≤ (k : Int) := by omega
      have k1 : (k : Int) < (yn : Int) := by omega
      by_cases h2 : kind = 2
      · subst h2
        obtain ⟨TA, tc, hTv, _⟩ := row_tn HF.out.row
        have hTv' : T = .slice TA ts.length tc := hTv
        subst hTv'
        clear hTv
        have hal := Rg.alloc_below' wr (.cells #[.int .i64 idx, .int .i64 term, .int .i64 2, .slice XA data.length xc] 67)
        have HKE := Lib.hid (Rg.Blk.new wr #[.int .i64 idx, .int .i64 term, .int .i64 2, .slice XA data.length xc] 67)
        have HAL := Lib.hid hal
        have HFa := Lib.hid (HF.out.below hal)
        have x9 := (fo_c9 HFa.out).1
        have xf := (fo_c9 HFa.out).2
        have y0 := HKE.out.cell 0 (.int .i64 idx) rfl
        have y2 := HKE.out.cell 2 (.int .i64 2) rfl
        have y3 := HKE.out.cell 3 (.slice XA data.length xc) rfl
        have HXA := Lib.hid (And.intro (HXD.out.1.below hal) HXD.out.2)
        have HDL := Lib.hid (show data.length ≤ 140737488355328 by omega)
        have HNE := Lib.hid (show wr.heap.size ≠ b.nb by have := HF.out.blk.lt; simp only at this; omega)
        have HTE := Lib.hid (show (Value.slice TA ts.length tc).ownBlock ≠ some wr.heap.size from fun e => by have := (Rg.row_lo HF.out.row _ e).2; omega)
        have HTL := Lib.hid (show ts.length + 1 ≤ 1000000 by omega)
        clear hal
        generalize hwa : wr.alloc (.cells #[.int .i64 idx, .int .i64 term, .int .i64 2, .slice XA data.length xc] 67) = wa at *
        have HGR := Lib.hid (fun W (hW : Below wa.heap.size wa W) => HFa.out.group W hW)
        have HD0 := Lib.hid (Below.refl wa.heap.size wa).drew
        have HLO := Lib.hid (show lo ≤ wa.heap.size from Nat.le_trans (HFa.out.lo b.nb (fmem.2 (by simp))) (Nat.le_of_lt HFa.out.blk.lt))
        generalize hDD : data.length = D at *
        generalize htn : ts.length = tn at *
        go_wp2_with fail
        clear y2
        clear HTN HSET HF2 HK1 HL HGT HB0 k3 HBm HE HD HS3 HF3 HKI HYL HROW HRB q0 q1 q2 q3 HXD hyn
        have HX9 := Lib.hid (fun (W : World) (hW : Below wa.heap.size wa W) => (fo_c9 (HFa.out.below hW)).1)
        clear x9 xf
        refine wp_region_held_drew (S := fun w' => w'.cell? ⟨wr.heap.size, 0, none⟩ = some (.int .i64 idx) ∧ w'.cell? ⟨wr.heap.size, 3, none⟩ = some (.slice XA D xc)) (by kernel_rfl) ?_ (fun hHeld => ?_)
        · exact ⟨y0, y3⟩
        refine wpAnyH_take (i := 0) (v := .pointer (some ⟨b.nb, 0, none⟩)) rfl (by kernel_rfl) (by kernel_rfl) (by kernel_rfl) (fun _ _ _ h => h) (Or.inl ⟨by kernel_rfl, fun w hSw => by (try dsimp only at hSw); go_simp⟩) (by assumption) ?_
        refine wpAnyH_take (i := 1) (v := .pointer (some ⟨b.nb, 0, none⟩)) rfl (by kernel_rfl) (by kernel_rfl) (by kernel_rfl) (fun _ _ _ h => h) (Or.inl ⟨by kernel_rfl, fun w hSw => by (try dsimp only at hSw); go_simp⟩) (by assumption) ?_
        refine wpAnyH_take (i := 2) (v := .pointer (some ⟨b.nb, 0, none⟩)) rfl (by kernel_rfl) (by kernel_rfl) (by kernel_rfl) (fun _ _ _ h => h) (Or.inl ⟨by kernel_rfl, fun w hSw => by (try dsimp only at hSw); go_simp⟩) (by assumption) ?_
        refine wpAnyH_take (i := 3) (v := .pointer (some ⟨b.nb, 9, none⟩)) rfl (by kernel_rfl) (by kernel_rfl) (by kernel_rfl) (fun _ _ _ h => h) (Or.inl ⟨by kernel_rfl, fun w hSw => by (try dsimp only at hSw); go_simp⟩) (by assumption) ?_
        refine wpAnyH_take (i := 5) (v := .pointer (some ⟨wr.heap.size, 0, none⟩)) rfl (by kernel_rfl) (by kernel_rfl) (by kernel_rfl) (fun _ _ _ h => h) (Or.inl ⟨by kernel_rfl, fun w hSw => by (try dsimp only at hSw); go_simp⟩) (by assumption) ?_
        refine wpAnyH_take (i := 6) (v := .int .i64 idx) rfl (by kernel_rfl) (by kernel_rfl) (by kernel_rfl) (fun _ _ _ h => h) (Or.inl ⟨by kernel_rfl, fun w hSw => by (try dsimp only at hSw); go_simp⟩) (by assumption) ?_
        refine wpAnyH_take (i := 7) (v := .pointer (some ⟨b.nb, 0, none⟩)) rfl (by kernel_rfl) (by kernel_rfl) (by kernel_rfl) (fun _ _ _ h => h) (Or.inl ⟨by kernel_rfl, fun w hSw => by (try dsimp only at hSw); go_simp⟩) (by assumption) ?_
        refine wpAnyH_take (i := 9) (v := .pointer (some ⟨wr.heap.size, 3, none⟩)) rfl (by kernel_rfl) (by kernel_rfl) (by kernel_rfl) (fun _ _ _ h => h) (Or.inl ⟨by kernel_rfl, fun w hSw => by (try dsimp only at hSw); go_simp⟩) (by assumption) ?_
        refine wpAnyH_take (i := 10) (v := .slice XA D xc) rfl (by kernel_rfl) (by kernel_rfl) (by kernel_rfl) (fun _ _ _ h => h) (Or.inl ⟨by kernel_rfl, fun w hSw => by (try dsimp only at hSw); go_simp⟩) (by assumption) ?_
        try simp only [Act.put]
        refine wpAnyH_ready (rs := [4, 8]) (by kernel_rfl) (by simp) ?_
        refine (AllReadyH.cons rfl (fun K hK => ?_) (AllReadyH.cons rfl (fun K hK => ?_) AllReadyH.nil))
        · have x9 := HX9.out _ HD0.out
          go_simp
          refine hK.out _ _ ⟨y0, y3⟩ (fun hHeld => ?_)
          clear hK K
          try simp only [Act.put]
          try simp only [Act.put]
          refine wpAnyH_ready (rs := [8]) (by kernel_rfl) (by simp) ?_
          refine (AllReadyH.cons rfl (fun K hK => ?_) AllReadyH.nil)
          go_simp
          go_at_call 25
          refine (HGR.out _ (by exact HD0.out)).mono ?_
          rintro e wg ⟨VA, vn, vc, LA, ln, lc, rfl, hgr, hbg⟩
          have y0 := (hbg.cell (p := ⟨wr.heap.size, 0, none⟩) (lt_of_cell y0)).trans (show World.cell? wa.drew _ = _ from y0)
          have y3 := (hbg.cell (p := ⟨wr.heap.size, 3, none⟩) (lt_of_cell y3)).trans (show World.cell? wa.drew _ = _ from y3)
          have HBG := Lib.hid (HD0.out.trans hbg)
          have HCH := Lib.hid (changed_gr (vc := vc) (lc := lc) (dc := xc) hgr (HXA.out.1.below (HD0.out.trans hbg)) HXA.out.2 HDL.out)
          clear hgr hbg
          try go_wp2_with fail
          refine hK.out _ _ ⟨y0, y3⟩ (fun hHeld => ?_)
          clear hK K
          try simp only [Act.put]
          try simp only [Act.put]
          refine wpAnyH_ready (rs := [11]) (by kernel_rfl) (by simp) ?_
          refine (AllReadyH.cons rfl (fun K hK => ?_) AllReadyH.nil)
          go_simp
          go_at_call 51
          refine HCH.out.mono ?_
          rintro e wc ⟨UA, un, uc, MA, mn, mc, rfl, hgu, hbc⟩
          have y0 := (hbc.cell (p := ⟨wr.heap.size, 0, none⟩) (lt_of_cell y0)).trans y0
          have y3 := (hbc.cell (p := ⟨wr.heap.size, 3, none⟩) (lt_of_cell y3)).trans y3
          have HBC := Lib.hid (HBG.out.trans (hbc.mono HBG.out.size))
          have HGU := Lib.hid (hgu.below (Rg.alloc_below' wc (.cells #[.int .i64 idx, .slice UA un uc, .slice MA mn mc] 103)))
          have HBX := Lib.hid (HBC.out.trans ((Rg.alloc_below' wc (.cells #[.int .i64 idx, .slice UA un uc, .slice MA mn mc] 103)).mono HBC.out.size))
          have HFc := Lib.hid (HFa.out.below HBX.out)
          have HRW := Lib.hid (fo_row HFc.out htn)
          clear hgu hbc
          try go_wp2_with fail
          refine hK.out _ _ ⟨y0, y3⟩ (fun hHeld => ?_)
          clear hK K
          try simp only [Act.put]
          refine wpAnyH_take (i := 12) (v := .agg #[.int .i64 idx, .slice UA un uc, .slice MA mn mc]) rfl (by kernel_rfl) (by kernel_rfl) (by kernel_rfl) (fun _ _ _ h => h) (Or.inl ⟨by kernel_rfl, fun w hSw => by (try dsimp only at hSw); go_simp⟩) (by assumption) ?_
          try simp only [Act.put]
          refine wpAnyH_ready (rs := [13]) (by kernel_rfl) (by simp) ?_
          refine (AllReadyH.cons rfl (fun K hK => ?_) AllReadyH.nil)
          go_simp
          have y0 := ((Rg.alloc_below' wc (.cells #[.int .i64 idx, .slice UA un uc, .slice MA mn mc] 103)).cell (p := ⟨wr.heap.size, 0, none⟩) (lt_of_cell y0)).trans y0
          have y3 := ((Rg.alloc_below' wc (.cells #[.int .i64 idx, .slice UA un uc, .slice MA mn mc] 103)).cell (p := ⟨wr.heap.size, 3, none⟩) (lt_of_cell y3)).trans y3
          refine hK.out _ _ ⟨y0, y3⟩ (fun hHeld => ?_)
          clear hK K
          try simp only [Act.put]
          try simp only [Act.put]
          refine wpAnyH_ready (rs := [14]) (by kernel_rfl) (by simp) ?_
          refine (AllReadyH.cons rfl (fun K hK => ?_) AllReadyH.nil)
          refine step_append1 eturn rfl _ _ rfl lo (.slice TA tn tc) tn (rowT ts) rfl (by exact HRW.out) wc.heap.size 1 [.int .i64 idx, .slice UA un uc, .slice MA mn mc] rfl rfl (by exact Rg.Blk.new wc _ _) (by simp [Value.oneCell']) (by have := HTL.out; omega) (by have a := HBX.out.size; have b := HLO.out; omega) ?_
          intro v6 w6 hr6 hg6 ha6
          obtain ⟨A6, c6, hv6, _⟩ := Rg.row_slice hr6
          subst hv6
          have HR6 := Lib.hid hr6
          have HG6 := Lib.hid hg6
          have HA6 := Lib.hid ha6
          have x9 := (turn_c9 HFc.out hg6).1
          have xf := (turn_c9 HFc.out hg6).2
          have y0 := (World.cell?_of_block (w := wc.alloc (.cells #[.int .i64 idx, .slice UA un uc, .slice MA mn mc] 103)) (w' := w6) (a := ⟨wr.heap.size, 0, none⟩) (hg6.block wr.heap.size (lt_of_cell y0) (fun e => HTE.out e.symm))).trans y0
          have y3 := (World.cell?_of_block (w := wc.alloc (.cells #[.int .i64 idx, .slice UA un uc, .slice MA mn mc] 103)) (w' := w6) (a := ⟨wr.heap.size, 3, none⟩) (hg6.block wr.heap.size (lt_of_cell y3) (fun e => HTE.out e.symm))).trans y3
          clear hr6 hg6 ha6
          refine hK.out _ _ ⟨y0, y3⟩ (fun hHeld => ?_)
          clear hK K
          try simp only [Act.put]
          refine wpAnyH_take (i := 15) (v := .pointer (some ⟨b.nb, 0, none⟩)) rfl (by kernel_rfl) (by kernel_rfl) (by kernel_rfl) (fun _ _ _ h => h) (Or.inl ⟨by kernel_rfl, fun w hSw => by (try dsimp only at hSw); go_simp⟩) (by assumption) ?_
          refine wpAnyH_take (i := 16) (v := .pointer (some ⟨b.nb, 9, none⟩)) rfl (by kernel_rfl) (by kernel_rfl) (by kernel_rfl) (fun _ _ _ h => h) (Or.inl ⟨by kernel_rfl, fun w hSw => by (try dsimp only at hSw); go_simp⟩) (by assumption) ?_
          try simp only [Act.put]
          refine wpAnyH_ready (rs := [17]) (by kernel_rfl) (by simp) ?_
          refine (AllReadyH.cons rfl (fun K hK => ?_) AllReadyH.nil)
          go_simp
          have y0 := set9 (u := .slice A6 (tn + 1) c6) y0 HNE.out
          have y3 := set9 (u := .slice A6 (tn + 1) c6) y3 HNE.out
          refine hK.out _ _ ⟨y0, y3⟩ (fun hHeld => ?_)
          clear hK K
          try simp only [Act.put]
          refine wpAnyH_done (by kernel_rfl) ?_ _
          go_simp
          have hx := turn_more HFc.out htn HG6.out HR6.out HA6.out HGU.out HIL.out (by have := HTL.out; omega)
          have HX := Lib.hid hx
          clear hx
          go_wp2
          go_roundw
          case rel =>
            have hsz : wr.heap.size ≤ wc.heap.size + 1 := by have a := HAL.out.size; have b := HBX.out.size; simp at b; omega
            refine ⟨k + 1, _, _, by omega, by go_num, HX.out.1, ?_, ?_, by simp; omega⟩
            · refine ((HFR.out.same (Dk.Fr.below HAL.out)).same (Dk.Fr.below HBX.out)).trans HX.out.2 (fun i hi => ?_)
              simp only [List.mem_cons, Option.mem_toList] at hi
              rcases hi with rfl | hi
              · exact .inl (by simp)
              · exact .inr (HTW.out i hi)
            · intro i hi
              rcases HA6.out with h | h
              · exact HTW.out i (h.symm.trans hi)
              · have : some _ = some i := h.symm.trans hi
                cases this
                have := HFR.out.size
                have := HAL.out.size
                have := HBX.out.size
                omega
          case measure => simp [intOf]; omega
        · go_simp
          go_at_call 25
          refine (HGR.out _ (by exact HD0.out)).mono ?_
          rintro e wg ⟨VA, vn, vc, LA, ln, lc, rfl, hgr, hbg⟩
          have y0 := (hbg.cell (p := ⟨wr.heap.size, 0, none⟩) (lt_of_cell y0)).trans (show World.cell? wa.drew _ = _ from y0)
          have y3 := (hbg.cell (p := ⟨wr.heap.size, 3, none⟩) (lt_of_cell y3)).trans (show World.cell? wa.drew _ = _ from y3)
          have HBG := Lib.hid (HD0.out.trans hbg)
          have HCH := Lib.hid (changed_gr (vc := vc) (lc := lc) (dc := xc) hgr (HXA.out.1.below (HD0.out.trans hbg)) HXA.out.2 HDL.out)
          clear hgr hbg
          try go_wp2_with fail
          refine hK.out _ _ ⟨y0, y3⟩ (fun hHeld => ?_)
          clear hK K
          try simp only [Act.put]
          try simp only [Act.put]
          refine wpAnyH_ready (rs := [4, 11]) (by kernel_rfl) (by simp) ?_
          refine (AllReadyH.cons rfl (fun K hK => ?_) (AllReadyH.cons rfl (fun K hK => ?_) AllReadyH.nil))
          · have x9 := HX9.out _ HBG.out
            go_simp
            refine hK.out _ _ ⟨y0, y3⟩ (fun hHeld => ?_)
            clear hK K
            try simp only [Act.put]
            try simp only [Act.put]
            refine wpAnyH_ready (rs := [11]) (by kernel_rfl) (by simp) ?_
            refine (AllReadyH.cons rfl (fun K hK => ?_) AllReadyH.nil)
            go_simp
            go_at_call 51
            refine HCH.out.mono ?_
            rintro e wc ⟨UA, un, uc, MA, mn, mc, rfl, hgu, hbc⟩
            have y0 := (hbc.cell (p := ⟨wr.heap.size, 0, none⟩) (lt_of_cell y0)).trans y0
            have y3 := (hbc.cell (p := ⟨wr.heap.size, 3, none⟩) (lt_of_cell y3)).trans y3
            have HBC := Lib.hid (HBG.out.trans (hbc.mono HBG.out.size))
            have HGU := Lib.hid (hgu.below (Rg.alloc_below' wc (.cells #[.int .i64 idx, .slice UA un uc, .slice MA mn mc] 103)))
            have HBX := Lib.hid (HBC.out.trans ((Rg.alloc_below' wc (.cells #[.int .i64 idx, .slice UA un uc, .slice MA mn mc] 103)).mono HBC.out.size))
            have HFc := Lib.hid (HFa.out.below HBX.out)
            have HRW := Lib.hid (fo_row HFc.out htn)
            clear hgu hbc
            try go_wp2_with fail
            refine hK.out _ _ ⟨y0, y3⟩ (fun hHeld => ?_)
            clear hK K
            try simp only [Act.put]
            refine wpAnyH_take (i := 12) (v := .agg #[.int .i64 idx, .slice UA un uc, .slice MA mn mc]) rfl (by kernel_rfl) (by kernel_rfl) (by kernel_rfl) (fun _ _ _ h => h) (Or.inl ⟨by kernel_rfl, fun w hSw => by (try dsimp only at hSw); go_simp⟩) (by assumption) ?_
            try simp only [Act.put]
            refine wpAnyH_ready (rs := [13]) (by kernel_rfl) (by simp) ?_
            refine (AllReadyH.cons rfl (fun K hK => ?_) AllReadyH.nil)
            go_simp
            have y0 := ((Rg.alloc_below' wc (.cells #[.int .i64 idx, .slice UA un uc, .slice MA mn mc] 103)).cell (p := ⟨wr.heap.size, 0, none⟩) (lt_of_cell y0)).trans y0
            have y3 := ((Rg.alloc_below' wc (.cells #[.int .i64 idx, .slice UA un uc, .slice MA mn mc] 103)).cell (p := ⟨wr.heap.size, 3, none⟩) (lt_of_cell y3)).trans y3
            refine hK.out _ _ ⟨y0, y3⟩ (fun hHeld => ?_)
            clear hK K
            try simp only [Act.put]
            try simp only [Act.put]
            refine wpAnyH_ready (rs := [14]) (by kernel_rfl) (by simp) ?_
            refine (AllReadyH.cons rfl (fun K hK => ?_) AllReadyH.nil)
            refine step_append1 eturn rfl _ _ rfl lo (.slice TA tn tc) tn (rowT ts) rfl (by exact HRW.out) wc.heap.size 1 [.int .i64 idx, .slice UA un uc, .slice MA mn mc] rfl rfl (by exact Rg.Blk.new wc _ _) (by simp [Value.oneCell']) (by have := HTL.out; omega) (by have a := HBX.out.size; have b := HLO.out; omega) ?_
            intro v6 w6 hr6 hg6 ha6
            obtain ⟨A6, c6, hv6, _⟩ := Rg.row_slice hr6
            subst hv6
            have HR6 := Lib.hid hr6
            have HG6 := Lib.hid hg6
            have HA6 := Lib.hid ha6
            have x9 := (turn_c9 HFc.out hg6).1
            have xf := (turn_c9 HFc.out hg6).2
            have y0 := (World.cell?_of_block (w := wc.alloc (.cells #[.int .i64 idx, .slice UA un uc, .slice MA mn mc] 103)) (w' := w6) (a := ⟨wr.heap.size, 0, none⟩) (hg6.block wr.heap.size (lt_of_cell y0) (fun e => HTE.out e.symm))).trans y0
            have y3 := (World.cell?_of_block (w := wc.alloc (.cells #[.int .i64 idx, .slice UA un uc, .slice MA mn mc] 103)) (w' := w6) (a := ⟨wr.heap.size, 3, none⟩) (hg6.block wr.heap.size (lt_of_cell y3) (fun e => HTE.out e.symm))).trans y3
            clear hr6 hg6 ha6
            refine hK.out _ _ ⟨y0, y3⟩ (fun hHeld => ?_)
            clear hK K
            try simp only [Act.put]
            refine wpAnyH_take (i := 15) (v := .pointer (some ⟨b.nb, 0, none⟩)) rfl (by kernel_rfl) (by kernel_rfl) (by kernel_rfl) (fun _ _ _ h => h) (Or.inl ⟨by kernel_rfl, fun w hSw => by (try dsimp only at hSw); go_simp⟩) (by assumption) ?_
            refine wpAnyH_take (i := 16) (v := .pointer (some ⟨b.nb, 9, none⟩)) rfl (by kernel_rfl) (by kernel_rfl) (by kernel_rfl) (fun _ _ _ h => h) (Or.inl ⟨by kernel_rfl, fun w hSw => by (try dsimp only at hSw); go_simp⟩) (by assumption) ?_
            try simp only [Act.put]
            refine wpAnyH_ready (rs := [17]) (by kernel_rfl) (by simp) ?_
            refine (AllReadyH.cons rfl (fun K hK => ?_) AllReadyH.nil)
            go_simp
            have y0 := set9 (u := .slice A6 (tn + 1) c6) y0 HNE.out
            have y3 := set9 (u := .slice A6 (tn + 1) c6) y3 HNE.out
            refine hK.out _ _ ⟨y0, y3⟩ (fun hHeld => ?_)
            clear hK K
            try simp only [Act.put]
            refine wpAnyH_done (by kernel_rfl) ?_ _
            go_simp
            have hx := turn_more HFc.out htn HG6.out HR6.out HA6.out HGU.out HIL.out (by have := HTL.out; omega)
            have HX := Lib.hid hx
            clear hx
            go_wp2
            go_roundw
            case rel =>
              have hsz : wr.heap.size ≤ wc.heap.size + 1 := by have a := HAL.out.size; have b := HBX.out.size; simp at b; omega
              refine ⟨k + 1, _, _, by omega, by go_num, HX.out.1, ?_, ?_, by simp; omega⟩
              · refine ((HFR.out.same (Dk.Fr.below HAL.out)).same (Dk.Fr.below HBX.out)).trans HX.out.2 (fun i hi => ?_)
                simp only [List.mem_cons, Option.mem_toList] at hi
                rcases hi with rfl | hi
                · exact .inl (by simp)
                · exact .inr (HTW.out i hi)
              · intro i hi
                rcases HA6.out with h | h
                · exact HTW.out i (h.symm.trans hi)
                · have : some _ = some i := h.symm.trans hi
                  cases this
                  have := HFR.out.size
                  have := HAL.out.size
                  have := HBX.out.size
                  omega
            case measure => simp [intOf]; omega
          · go_simp
            go_at_call 51
            refine HCH.out.mono ?_
            rintro e wc ⟨UA, un, uc, MA, mn, mc, rfl, hgu, hbc⟩
            have y0 := (hbc.cell (p := ⟨wr.heap.size, 0, none⟩) (lt_of_cell y0)).trans y0
            have y3 := (hbc.cell (p := ⟨wr.heap.size, 3, none⟩) (lt_of_cell y3)).trans y3
            have HBC := Lib.hid (HBG.out.trans (hbc.mono HBG.out.size))
            have HGU := Lib.hid (hgu.below (Rg.alloc_below' wc (.cells #[.int .i64 idx, .slice UA un uc, .slice MA mn mc] 103)))
            have HBX := Lib.hid (HBC.out.trans ((Rg.alloc_below' wc (.cells #[.int .i64 idx, .slice UA un uc, .slice MA mn mc] 103)).mono HBC.out.size))
            have HFc := Lib.hid (HFa.out.below HBX.out)
            have HRW := Lib.hid (fo_row HFc.out htn)
            clear hgu hbc
            try go_wp2_with fail
            refine hK.out _ _ ⟨y0, y3⟩ (fun hHeld => ?_)
            clear hK K
            try simp only [Act.put]
            refine wpAnyH_take (i := 12) (v := .agg #[.int .i64 idx, .slice UA un uc, .slice MA mn mc]) rfl (by kernel_rfl) (by kernel_rfl) (by kernel_rfl) (fun _ _ _ h => h) (Or.inl ⟨by kernel_rfl, fun w hSw => by (try dsimp only at hSw); go_simp⟩) (by assumption) ?_
            try simp only [Act.put]
            refine wpAnyH_ready (rs := [4, 13]) (by kernel_rfl) (by simp) ?_
            refine (AllReadyH.cons rfl (fun K hK => ?_) (AllReadyH.cons rfl (fun K hK => ?_) AllReadyH.nil))
            · have x9 := HX9.out _ HBC.out
              go_simp
              refine hK.out _ _ ⟨y0, y3⟩ (fun hHeld => ?_)
              clear hK K
              try simp only [Act.put]
              try simp only [Act.put]
              refine wpAnyH_ready (rs := [13]) (by kernel_rfl) (by simp) ?_
              refine (AllReadyH.cons rfl (fun K hK => ?_) AllReadyH.nil)
              go_simp
              have y0 := ((Rg.alloc_below' wc (.cells #[.int .i64 idx, .slice UA un uc, .slice MA mn mc] 103)).cell (p := ⟨wr.heap.size, 0, none⟩) (lt_of_cell y0)).trans y0
              have y3 := ((Rg.alloc_below' wc (.cells #[.int .i64 idx, .slice UA un uc, .slice MA mn mc] 103)).cell (p := ⟨wr.heap.size, 3, none⟩) (lt_of_cell y3)).trans y3
              refine hK.out _ _ ⟨y0, y3⟩ (fun hHeld => ?_)
              clear hK K
              try simp only [Act.put]
              try simp only [Act.put]
              refine wpAnyH_ready (rs := [14]) (by kernel_rfl) (by simp) ?_
              refine (AllReadyH.cons rfl (fun K hK => ?_) AllReadyH.nil)
              refine step_append1 eturn rfl _ _ rfl lo (.slice TA tn tc) tn (rowT ts) rfl (by exact HRW.out) wc.heap.size 1 [.int .i64 idx, .slice UA un uc, .slice MA mn mc] rfl rfl (by exact Rg.Blk.new wc _ _) (by simp [Value.oneCell']) (by have := HTL.out; omega) (by have a := HBX.out.size; have b := HLO.out; omega) ?_
              intro v6 w6 hr6 hg6 ha6
              obtain ⟨A6, c6, hv6, _⟩ := Rg.row_slice hr6
              subst hv6
              have HR6 := Lib.hid hr6
              have HG6 := Lib.hid hg6
              have HA6 := Lib.hid ha6
              have x9 := (turn_c9 HFc.out hg6).1
              have xf := (turn_c9 HFc.out hg6).2
              have y0 := (World.cell?_of_block (w := wc.alloc (.cells #[.int .i64 idx, .slice UA un uc, .slice MA mn mc] 103)) (w' := w6) (a := ⟨wr.heap.size, 0, none⟩) (hg6.block wr.heap.size (lt_of_cell y0) (fun e => HTE.out e.symm))).trans y0
              have y3 := (World.cell?_of_block (w := wc.alloc (.cells #[.int .i64 idx, .slice UA un uc, .slice MA mn mc] 103)) (w' := w6) (a := ⟨wr.heap.size, 3, none⟩) (hg6.block wr.heap.size (lt_of_cell y3) (fun e => HTE.out e.symm))).trans y3
              clear hr6 hg6 ha6
              refine hK.out _ _ ⟨y0, y3⟩ (fun hHeld => ?_)
              clear hK K
              try simp only [Act.put]
              refine wpAnyH_take (i := 15) (v := .pointer (some ⟨b.nb, 0, none⟩)) rfl (by kernel_rfl) (by kernel_rfl) (by kernel_rfl) (fun _ _ _ h => h) (Or.inl ⟨by kernel_rfl, fun w hSw => by (try dsimp only at hSw); go_simp⟩) (by assumption) ?_
              refine wpAnyH_take (i := 16) (v := .pointer (some ⟨b.nb, 9, none⟩)) rfl (by kernel_rfl) (by kernel_rfl) (by kernel_rfl) (fun _ _ _ h => h) (Or.inl ⟨by kernel_rfl, fun w hSw => by (try dsimp only at hSw); go_simp⟩) (by assumption) ?_
              try simp only [Act.put]
              refine wpAnyH_ready (rs := [17]) (by kernel_rfl) (by simp) ?_
              refine (AllReadyH.cons rfl (fun K hK => ?_) AllReadyH.nil)
              go_simp
              have y0 := set9 (u := .slice A6 (tn + 1) c6) y0 HNE.out
              have y3 := set9 (u := .slice A6 (tn + 1) c6) y3 HNE.out
              refine hK.out _ _ ⟨y0, y3⟩ (fun hHeld => ?_)
              clear hK K
              try simp only [Act.put]
              refine wpAnyH_done (by kernel_rfl) ?_ _
              go_simp
              have hx := turn_more HFc.out htn HG6.out HR6.out HA6.out HGU.out HIL.out (by have := HTL.out; omega)
              have HX := Lib.hid hx
              clear hx
              go_wp2
              go_roundw
              case rel =>
                have hsz : wr.heap.size ≤ wc.heap.size + 1 := by have a := HAL.out.size; have b := HBX.out.size; simp at b; omega
                refine ⟨k + 1, _, _, by omega, by go_num, HX.out.1, ?_, ?_, by simp; omega⟩
                · refine ((HFR.out.same (Dk.Fr.below HAL.out)).same (Dk.Fr.below HBX.out)).trans HX.out.2 (fun i hi => ?_)
                  simp only [List.mem_cons, Option.mem_toList] at hi
                  rcases hi with rfl | hi
                  · exact .inl (by simp)
                  · exact .inr (HTW.out i hi)
                · intro i hi
                  rcases HA6.out with h | h
                  · exact HTW.out i (h.symm.trans hi)
                  · have : some _ = some i := h.symm.trans hi
                    cases this
                    have := HFR.out.size
                    have := HAL.out.size
                    have := HBX.out.size
                    omega
              case measure => simp [intOf]; omega
            · go_simp
              have y0 := ((Rg.alloc_below' wc (.cells #[.int .i64 idx, .slice UA un uc, .slice MA mn mc] 103)).cell (p := ⟨wr.heap.size, 0, none⟩) (lt_of_cell y0)).trans y0
              have y3 := ((Rg.alloc_below' wc (.cells #[.int .i64 idx, .slice UA un uc, .slice MA mn mc] 103)).cell (p := ⟨wr.heap.size, 3, none⟩) (lt_of_cell y3)).trans y3
              refine hK.out _ _ ⟨y0, y3⟩ (fun hHeld => ?_)
              clear hK K
              try simp only [Act.put]
              try simp only [Act.put]
              refine wpAnyH_ready (rs := [4]) (by kernel_rfl) (by simp) ?_
              refine (AllReadyH.cons rfl (fun K hK => ?_) AllReadyH.nil)
              have x9 := HX9.out _ HBX.out
              go_simp
              refine hK.out _ _ ⟨y0, y3⟩ (fun hHeld => ?_)
              clear hK K
              try simp only [Act.put]
              try simp only [Act.put]
              refine wpAnyH_ready (rs := [14]) (by kernel_rfl) (by simp) ?_
              refine (AllReadyH.cons rfl (fun K hK => ?_) AllReadyH.nil)
              refine step_append1 eturn rfl _ _ rfl lo (.slice TA tn tc) tn (rowT ts) rfl (by exact HRW.out) wc.heap.size 1 [.int .i64 idx, .slice UA un uc, .slice MA mn mc] rfl rfl (by exact Rg.Blk.new wc _ _) (by simp [Value.oneCell']) (by have := HTL.out; omega) (by have a := HBX.out.size; have b := HLO.out; omega) ?_
              intro v6 w6 hr6 hg6 ha6
              obtain ⟨A6, c6, hv6, _⟩ := Rg.row_slice hr6
              subst hv6
              have HR6 := Lib.hid hr6
              have HG6 := Lib.hid hg6
              have HA6 := Lib.hid ha6
              have x9 := (turn_c9 HFc.out hg6).1
              have xf := (turn_c9 HFc.out hg6).2
              have y0 := (World.cell?_of_block (w := wc.alloc (.cells #[.int .i64 idx, .slice UA un uc, .slice MA mn mc] 103)) (w' := w6) (a := ⟨wr.heap.size, 0, none⟩) (hg6.block wr.heap.size (lt_of_cell y0) (fun e => HTE.out e.symm))).trans y0
              have y3 := (World.cell?_of_block (w := wc.alloc (.cells #[.int .i64 idx, .slice UA un uc, .slice MA mn mc] 103)) (w' := w6) (a := ⟨wr.heap.size, 3, none⟩) (hg6.block wr.heap.size (lt_of_cell y3) (fun e => HTE.out e.symm))).trans y3
              clear hr6 hg6 ha6
              refine hK.out _ _ ⟨y0, y3⟩ (fun hHeld => ?_)
              clear hK K
              try simp only [Act.put]
              refine wpAnyH_take (i := 15) (v := .pointer (some ⟨b.nb, 0, none⟩)) rfl (by kernel_rfl) (by kernel_rfl) (by kernel_rfl) (fun _ _ _ h => h) (Or.inl ⟨by kernel_rfl, fun w hSw => by (try dsimp only at hSw); go_simp⟩) (by assumption) ?_
              refine wpAnyH_take (i := 16) (v := .pointer (some ⟨b.nb, 9, none⟩)) rfl (by kernel_rfl) (by kernel_rfl) (by kernel_rfl) (fun _ _ _ h => h) (Or.inl ⟨by kernel_rfl, fun w hSw => by (try dsimp only at hSw); go_simp⟩) (by assumption) ?_
              try simp only [Act.put]
              refine wpAnyH_ready (rs := [17]) (by kernel_rfl) (by simp) ?_
              refine (AllReadyH.cons rfl (fun K hK => ?_) AllReadyH.nil)
              go_simp
              have y0 := set9 (u := .slice A6 (tn + 1) c6) y0 HNE.out
              have y3 := set9 (u := .slice A6 (tn + 1) c6) y3 HNE.out
              refine hK.out _ _ ⟨y0, y3⟩ (fun hHeld => ?_)
              clear hK K
              try simp only [Act.put]
              refine wpAnyH_done (by kernel_rfl) ?_ _
              go_simp
              have hx := turn_more HFc.out htn HG6.out HR6.out HA6.out HGU.out HIL.out (by have := HTL.out; omega)
              have HX := Lib.hid hx
              clear hx
              go_wp2
              go_roundw
              case rel =>
                have hsz : wr.heap.size ≤ wc.heap.size + 1 := by have a := HAL.out.size; have b := HBX.out.size; simp at b; omega
                refine ⟨k + 1, _, _, by omega, by go_num, HX.out.1, ?_, ?_, by simp; omega⟩
                · refine ((HFR.out.same (Dk.Fr.below HAL.out)).same (Dk.Fr.below HBX.out)).trans HX.out.2 (fun i hi => ?_)
                  simp only [List.mem_cons, Option.mem_toList] at hi
                  rcases hi with rfl | hi
                  · exact .inl (by simp)
                  · exact .inr (HTW.out i hi)
                · intro i hi
                  rcases HA6.out with h | h
                  · exact HTW.out i (h.symm.trans hi)
                  · have : some _ = some i := h.symm.trans hi
                    cases this
                    have := HFR.out.size
                    have := HAL.out.size
                    have := HBX.out.size
                    omega
              case measure => simp [intOf]; omega
      · have hki : (kind == 2) = false := by simpa using h2
        generalize data.length = D at *
        go_wp2
        go_roundw
        case rel => exact ⟨k + 1, T, ts, by omega, by go_num, HF.out.below (Rg.alloc_below' _ _), HFR.out.same (Dk.Fr.below (Rg.alloc_below' _ _)), HTW.out, by omega⟩
        case measure => simp [intOf]; omega
    · obtain rfl : k = yn := by omega
      have HFr := Lib.hid HF.out
      have HGR := Lib.hid (fun W (hW : Below wr.heap.size wr W) => HF.out.group W hW)
      have e0 := HF.out.c0
      have HBd := Lib.hid (Below.refl wr.heap.size wr).drew
      go_wp2_with fail
      go_region_held3 (fun w' => w'.cell? ⟨b.nb, 0, none⟩ = some (.pointer (some ⟨b.p.g, 0, none⟩))) (first | exact (by assumption) | go_keep) (first
        | (go_at_call 25; refine (HGR.out _ (by exact HBd.out)).mono ?_; rintro e w4 ⟨VA, vn, vc, LA, ln, lc, rfl, hgr, hb4⟩; have e0 := (hb4.cell (p := ⟨b.nb, 0, none⟩) (lt_of_cell e0)).trans (show World.cell? wr.drew _ = _ from e0); have HB4 := Lib.hid (HBd.out.trans hb4); have HJ := Lib.hid ((HF.out.below (HBd.out.trans hb4)).join VA vn vc LA ln lc hgr); clear hb4 hgr)
        | (go_at_call 52; refine (HJ.out).mono ?_; rintro e w5 ⟨⟨jc, rfl⟩, p', e', hpg, hF5, hf5, j1, j2, j3⟩; have e0 : w5.cell? ⟨b.nb, 0, none⟩ = some (.pointer (some ⟨b.p.g, 0, none⟩)) := (by have := hF5.c0; rw [← hpg]; exact this)
           have HPG := Lib.hid hpg; have HF5 := Lib.hid hF5; have HFR5 := Lib.hid hf5; have HJJ := Lib.hid (And.intro j1 (And.intro j2 j3)); clear hpg hF5 hf5 j1 j2 j3))
      have hro := HF5.out.role
      have HRO := Lib.hid (show Calls Tryz.prog 13 #[.pointer (some ⟨b.p.g, 0, none⟩)] w5 fun e w' => e = .returned (.int .i64 e'.role) ∧ w5 = w' by rw [← HPG.out]; exact El.role_any p' e' w5 HF5.out.el)
      have q3 : (e'.role == 3) = false := by simpa using hro
      clear hro
      go_wp2_with fail
      refine HRO.out.mono ?_
      rintro e w' ⟨rfl, rfl⟩
      go_wp2
      go_end0
      refine ⟨rfl, { b with p := p', T := T, ts := ts }, e', rfl, rfl, HF5.out, HJJ.out.1, HJJ.out.2.1, ?_⟩
      refine (HF3.out.mono (S' := [b.nb, b.p.g, b.p.b]) (fun i hi => by simp at hi; simp [hi])).trans (((HFR.out.mono (S' := [b.nb, b.p.g, b.p.b]) (fun i hi => by simp at hi; simp [hi])).same (Dk.Fr.below HB4.out)).same (HFR5.out.mono (fun i hi => by simp at hi; rcases hi with rfl | rfl <;> simp))) (fun i hi => .inl hi)
end Go.Proofs.YtjadfpcipicckaaGreat.Rf

namespace Go.Proofs.YtjadfpcipicckaaGreat.Rf
open Go.RowKit Go.Shelf Go.Proofs.YtjadfpcipicckaaGreat.Fld
open Go.Proofs.YtjadfpcipicckaaGreat.Qu (RdI)
set_option linter.unusedVariables false

/-- what New answers: an error, or a node that does not lead and has told its hard state -/
def FNew (w : World) (e : Ending) (w' : World) : Prop := Below w.heap.size w w' ∧ ((∃ c : Int, (c == 0) = false ∧ e = .returned (.tuple #[.pointer none, .int .i64 c])) ∨ ∃ b s, e = .returned (.tuple #[.pointer (some ⟨b.nb, 0, none⟩), .int .i64 0]) ∧ Fo w.heap.size w' b s ∧ s.hT = s.e.term ∧ s.hV = s.e.vote)
theorem FNew.bad {w w' : World} {e : Ending} (hb : Below w.heap.size w w') (c : Int) (hc : (c == 0) = false) (he : e = .returned (.tuple #[.pointer none, .int .i64 c])) : FNew w e w' := ⟨hb, .inl ⟨c, hc, he⟩⟩
set_option maxRecDepth 100000 in
set_option maxHeartbeats 3200000 in
theorem fnew_any (id hT hV sI sT pat win : Int) (VA : Option Addr) (vc : Nat) (vs : List Int) (LA : Option Addr) (lc : Nat) (ls : List Int) (DA : Option Addr) (dn dc : Nat) (ds : List Int) (hdn : ds.length = dn) (EA : Option Addr) (m ec : Nat) (es : List Rg.EA) (w : World)
    (hv : RdI w VA vs.length vs) (hl : RdI w LA ls.length ls) (hd : Fld.Rd w DA dn ds) (hz : DA = none → dc = 0) (he : Rg.RdE w EA m es) (hez : EA = none → ec = 0) (hm : m ≤ 1000000) :
    Calls Tryz.prog 6 #[.int .i64 id, .agg #[.int .i64 hT, .int .i64 hV], snV sI sT VA vs.length vc LA ls.length lc DA dn dc, .slice EA m ec, .agg #[.int .i64 pat, .int .i64 win]] w (FNew w) := by
  obtain ⟨hb, k0, k1, k2, hsz⟩ := bxs_all w hT hV (snC sI sT VA vs.length vc LA ls.length lc DA dn dc) pat win
  have HB := Lib.hid hb
  have HK0 := Lib.hid k0
  have HK1 := Lib.hid k1
  have HK2 := Lib.hid k2
  have HSZ := Lib.hid hsz
  have HVS := Lib.hid (fun W (hW : Below w.heap.size w W) => validSnap_any sI sT VA vs.length vc vs LA ls.length lc ls DA dn dc W (hv.below hW) (hl.below hW))
  have HEN := Lib.hid (fun hn W (hW : Below w.heap.size w W) => El.new_ok id hT hV pat VA vc vs LA lc ls W (hv.below hW) (hl.below hW) hn)
  have HEB := Lib.hid (fun hn W (hW : Below w.heap.size w W) => El.new_bad id hT hV pat VA vc vs LA lc ls W (hv.below hW) (hl.below hW) hn)
  have HCS := Lib.hid (fun h1 h2 h3 W (hW : Below w.heap.size w W) => csnapT_any sI sT VA vc vs LA lc ls DA dc ds W (hv.below hW) (hl.below hW) h1 h2 (by rw [hdn]; exact hd.below hW) hz h3)
  have HRN := Lib.hid (fun h1 h2 W (hW : w.heap.size ≤ W.heap.size) => Rg.new_ok w.heap.size sI sT W hW h1 h2)
  have hml : es.length = m := he.len
  have HML := Lib.hid hml
  have HAD := Lib.hid (fun W (hW : Below w.heap.size w W) g (hI : Rg.Im w.heap.size W g (Rg.st0 sI sT) (.slice none 0 0) []) => Rg.add_any w.heap.size g (Rg.st0 sI sT) (.slice none 0 0) [] EA m ec es W hI hW.size (he.below hW) hez hm (by simp))
  have HOK := Lib.hid (show okSnap sI sT vs ls dn = true → Rg.okN sI = true ∧ Rg.okN sT = true ∧ Qu.grpOk vs ls = true ∧ dn ≤ 60000 by unfold okSnap; simp)
  have HM := Lib.hid hm
  have HDN := Lib.hid hdn
  unfold Qu.grpV at HEN HEB
  unfold snV at HVS HCS ⊢
  unfold bxs snC at *
  have d0 := k2.cell 0 (.int .i64 pat) rfl
  have d1 := k2.cell 1 (.int .i64 win) rfl
  rw [hdn] at HCS
  generalize hvn : vs.length = vn at *
  generalize hln : ls.length = ln at *
  have HVN := Lib.hid (And.intro hvn hln)
  clear hb k0 k1 k2 hsz hv hl hd hz he hez hml hm hdn hvn hln
  go_enter Tryz.func6, Tryz.ntmps6
  go_upto_region 1 with fail
  generalize ((w.alloc (.cells #[.int .i64 hT, .int .i64 hV] 23)).alloc (.cells #[.int .i64 sI, .int .i64 sT, .slice VA vn vc, .slice LA ln lc, .slice DA dn dc] 29)).alloc (.cells #[.int .i64 pat, .int .i64 win] 31) = wb at *
  go_quiet (fail)
  have HB1 := Lib.hid (HB.out.trans ((Qu.below_dr wb nq).mono HB.out.size))
  have HW1 := Lib.hid (Qu.below_dr wb nq)
  generalize wb.drewN nq = w1 at *
  have e0 := (HK1.out.below HW1.out).cell 0 (.int .i64 sI) rfl
  have e1 := (HK1.out.below HW1.out).cell 1 (.int .i64 sT) rfl
  have e2 := (HK1.out.below HW1.out).cell 2 (.slice VA vn vc) rfl
  have e3 := (HK1.out.below HW1.out).cell 3 (.slice LA ln lc) rfl
  have e4 := (HK1.out.below HW1.out).cell 4 (.slice DA dn dc) rfl
  clear d0 d1
  go_wp2_with fail
  refine (HVS.out _ HB1.out).mono ?_
  rintro e w2 ⟨rfl, hb2⟩
  have HB2 := Lib.hid (HB1.out.trans (hb2.mono HB1.out.size))
  have HW2 := Lib.hid (HW1.out.trans (hb2.mono HW1.out.size))
  clear hb2 e0 e1 e2 e3 e4
  cases hok : okSnap sI sT vs ls dn with
  | false =>
    go_wp2
    go_ret2
    exact FNew.bad HB2.out 1 (by decide) rfl
  | true =>
    obtain ⟨o1, o2, o3, o4⟩ := HOK.out hok
    obtain ⟨f1, f2⟩ := grp_few o3
    rw [HVN.out.1] at f1
    rw [HVN.out.2] at f2
    by_cases q1 : win < 1
    · go_wp2
      go_ret2
      exact FNew.bad HB2.out 1 (by decide) rfl
    by_cases q2 : 64 < win
    · go_wp2
      go_ret2
      exact FNew.bad HB2.out 1 (by decide) rfl
    have h0 := (HK0.out.below HW2.out).cell 0 (.int .i64 hT) rfl
    have h1 := (HK0.out.below HW2.out).cell 1 (.int .i64 hV) rfl
    have e2 := (HK1.out.below HW2.out).cell 2 (.slice VA vn vc) rfl
    have e3 := (HK1.out.below HW2.out).cell 3 (.slice LA ln lc) rfl
    cases hno : El.newOk id hT hV vs ls pat with
    | false =>
      go_wp2_with fail
      refine (HEB.out hno _ HB2.out).mono ?_
      rintro e w3 ⟨rfl, hb3⟩
      have HB3 := Lib.hid (HB2.out.trans (hb3.mono HB2.out.size))
      clear hb3
      go_wp2
      go_ret2
      exact FNew.bad HB3.out 1 (by decide) rfl
    | true =>
      go_wp2_with fail
      refine (HEN.out hno _ HB2.out).mono ?_
      rintro e w3 ⟨p, rfl, hM⟩
      have HM3 := Lib.hid hM
      have HB3 := Lib.hid (HB2.out.trans (hM.bel.mono HB2.out.size))
      have HW3 := Lib.hid (HW2.out.trans (hM.bel.mono HW2.out.size))
      clear hM h0 h1 e2 e3
      have e0 := (HK1.out.below HW3.out).cell 0 (.int .i64 sI) rfl
      have e1 := (HK1.out.below HW3.out).cell 1 (.int .i64 sT) rfl
      go_wp2_with fail
      refine (HRN.out o1 o2 _ HB3.out.size).mono ?_
      rintro e w4 ⟨g, rfl, hg, hI, hb4⟩
      have HG := Lib.hid hg
      have HB4 := Lib.hid (HB3.out.trans (hb4.mono HB3.out.size))
      have HW4 := Lib.hid hb4
      have HAD4 := Lib.hid (HAD.out _ HB4.out g hI)
      clear hg hI hb4 e0 e1
      go_wp2_with fail
      refine HAD4.out.mono ?_
      rintro e w5 ⟨v, xs, rfl, hD⟩
      have HD := Lib.hid hD
      have hs := HB3.out.size
      have HW35 := Lib.hid (Dk.Fr.to_below HW4.out hD.fr (fun i hi => by simp [Value.ownBlock] at hi; have := HG.out; omega))
      have HB5 := Lib.hid (HB3.out.trans (HW35.out.mono HB3.out.size))
      have HW5 := Lib.hid (HW3.out.trans (HW35.out.mono HW3.out.size))
      have HKX := Lib.hid (fun W (hW : Below wb.heap.size wb W) => And.intro (HK0.out.below hW) (HK1.out.below hW))
      clear hD hs
      cases hc : (Rg.addC (Rg.st0 sI sT) (Rg.ens es) == 0) with
      | false =>
        have HC := Lib.hid hc
        generalize Rg.addC (Rg.st0 sI sT) (Rg.ens es) = cc at *
        have hcn : (cc != 0) = true := by simpa using hc
        go_wp2
        go_ret2
        exact FNew.bad HB5.out cc HC.out rfl
      | true =>
        have hadd : Rg.addC (Rg.st0 sI sT) (Rg.ens es) = 0 := by simpa using hc
        rw [hadd]
        have HFEW := Lib.hid (show xs.length ≤ 1000000 by
          have h1 := HD.out.im.n
          have h2 : (Rg.stAdd (Rg.st0 sI sT) (Rg.ens es)).es = Rg.ens es := by
            unfold Rg.addC at hadd
            unfold Rg.stAdd
            by_cases a1 : Rg.okL (Rg.ens es) = true
            · by_cases a2 : Rg.fol (Rg.ens es) (Rg.st0 sI sT).last (Rg.st0 sI sT).lt = true
              · rw [if_pos ⟨a1, a2⟩]; rfl
              · rw [if_pos a1, if_neg a2] at hadd; cases hadd
            · rw [if_neg a1] at hadd; cases hadd
          rw [h2, Rg.ens_len, HML.out] at h1
          have := HM.out
          omega)
        clear hadd hc
        have h0 := (HKX.out _ HW5.out).1.cell 0 (.int .i64 hT) rfl
        have h1 := (HKX.out _ HW5.out).1.cell 1 (.int .i64 hV) rfl
        have e0 := (HKX.out _ HW5.out).2.cell 0 (.int .i64 sI) rfl
        have e1 := (HKX.out _ HW5.out).2.cell 1 (.int .i64 sT) rfl
        have e2 := (HKX.out _ HW5.out).2.cell 2 (.slice VA vn vc) rfl
        have e3 := (HKX.out _ HW5.out).2.cell 3 (.slice LA ln lc) rfl
        have e4 := (HKX.out _ HW5.out).2.cell 4 (.slice DA dn dc) rfl
        have HB5d := Lib.hid (HB5.out.trans ((Below.refl w5.heap.size w5).drew.mono HB5.out.size))
        have HW5d := Lib.hid (HW5.out.trans ((Below.refl w5.heap.size w5).drew.mono HW5.out.size))
        have HCS2 := Lib.hid (HCS.out f1 f2 (by omega))
        go_wp2_with fail
        go_region_held3 (fun w' => w'.cell? ⟨w.heap.size, 0, none⟩ = some (.int .i64 hT) ∧ w'.cell? ⟨w.heap.size, 1, none⟩ = some (.int .i64 hV) ∧ w'.cell? ⟨w.heap.size + 1, 0, none⟩ = some (.int .i64 sI) ∧ w'.cell? ⟨w.heap.size + 1, 1, none⟩ = some (.int .i64 sT) ∧ w'.cell? ⟨w.heap.size + 1, 2, none⟩ = some (.slice VA vn vc) ∧ w'.cell? ⟨w.heap.size + 1, 3, none⟩ = some (.slice LA ln lc) ∧ w'.cell? ⟨w.heap.size + 1, 4, none⟩ = some (.slice DA dn dc)) (first | exact ⟨by assumption, by assumption, by assumption, by assumption, by assumption, by assumption, by assumption⟩ | exact ⟨((Rg.alloc_below' w6 _).cell (lt_of_cell h0)).trans h0, ((Rg.alloc_below' w6 _).cell (lt_of_cell h1)).trans h1, ((Rg.alloc_below' w6 _).cell (lt_of_cell e0)).trans e0, ((Rg.alloc_below' w6 _).cell (lt_of_cell e1)).trans e1, ((Rg.alloc_below' w6 _).cell (lt_of_cell e2)).trans e2, ((Rg.alloc_below' w6 _).cell (lt_of_cell e3)).trans e3, ((Rg.alloc_below' w6 _).cell (lt_of_cell e4)).trans e4⟩ | go_keep) (first
          | (go_at_call 19; refine (HCS2.out _ (by exact HB5d.out)).mono ?_; rintro e w6 ⟨A1, c1, A2, c2, A3, c3, he, hC⟩; unfold snV at he; rw [HDN.out, HVN.out.1, HVN.out.2] at he; subst he; have HC := Lib.hid hC; have HW6 := Lib.hid (HW5d.out.trans (hC.bel.mono HW5d.out.size)); have h0 := (HKX.out _ HW6.out).1.cell 0 (.int .i64 hT) rfl; have h1 := (HKX.out _ HW6.out).1.cell 1 (.int .i64 hV) rfl; have e0 := (HKX.out _ HW6.out).2.cell 0 (.int .i64 sI) rfl; have e1 := (HKX.out _ HW6.out).2.cell 1 (.int .i64 sT) rfl; have e2 := (HKX.out _ HW6.out).2.cell 2 (.slice VA vn vc) rfl; have e3 := (HKX.out _ HW6.out).2.cell 3 (.slice LA ln lc) rfl; have e4 := (HKX.out _ HW6.out).2.cell 4 (.slice DA dn dc) rfl; clear hC))
        have HB6 := Lib.hid (HB5.out.trans (((Below.refl w5.heap.size w5).drew.trans HC.out.bel).mono HB5.out.size))
        have HM2 := Lib.hid (show ∀ i ∈ p.all, w.heap.size ≤ i ∧ i < w3.heap.size from fun i hi => ⟨Nat.le_trans HB2.out.size (HM3.out.new i hi).1, (HM3.out.new i hi).2⟩)
        have hal := fo_made (win := win) (dn := dn) (ds := ds) HB3.out HM3.out.im HM2.out HW4.out HG.out HD.out HW35.out (A1 := A1) (c1 := c1) (A2 := A2) (c2 := c2) (A3 := A3) (c3 := c3) ⟨HC.out.n2, HC.out.r1, HC.out.r2, HC.out.b1, HC.out.b2, (Below.refl w5.heap.size w5).drew.trans HC.out.bel⟩ HFEW.out
        rw [HVN.out.1, HVN.out.2] at hal
        have HAL := Lib.hid hal
        have HB7 := Lib.hid (HB6.out.alloc HB6.out.size (.cells (foR (fb0 w6.heap.size p g v xs A1 vn c1 A2 ln c2 A3 dn c3) (fs0 id hT hV sI sT pat win vs ls (Rg.ens es))) 60))
        clear h0 h1 e0 e1 e2 e3 e4 hal
        obtain ⟨nb, hnb⟩ : ∃ nb, nb = w6.heap.size := ⟨_, rfl⟩
        obtain ⟨w7, hw7⟩ : ∃ w7, w7 = w6.alloc (.cells (foR (fb0 w6.heap.size p g v xs A1 vn c1 A2 ln c2 A3 dn c3) (fs0 id hT hV sI sT pat win vs ls (Rg.ens es))) 60) := ⟨_, rfl⟩
        rw [← hw7, ← hnb] at HAL
        rw [← hw7] at HB7
        have hfst := Rg.first_any g _ _ _ _ _ w7 HAL.out.lg.blk HAL.out.lg.ok.b0 (by have h1 := HAL.out.lg.ok.bl; unfold Rg.St.last at h1; omega)
        have HFST := Lib.hid hfst
        have HRG := Lib.hid (fun f => fregroup f HAL.out rfl rfl)
        rw [← hnb]
        generalize hobj : w6.alloc (.cells #[.pointer (some ⟨p.g, 0, none⟩), .int .i64 id, .int .i64 win, .pointer (some ⟨g, 0, none⟩), .int .i64 sI, .int .i64 sT, .slice A1 vn c1, .slice A2 ln c2, .slice A3 dn c3, .slice none 0 0, .int .i64 hT, .int .i64 hV, .bool false, .int .i64 0, .int .i64 0, .bool false, .int .i64 0, .int .i64 0, .slice none 0 0, .slice none 0 0, .slice none 0 0, .int .i64 0, .slice none 0 0, .slice none 0 0, .map none, .slice none 0 0, .int .i64 0] 60) = w8
        obtain rfl : w7 = w8 := hw7.trans hobj
        clear hobj hw7 hnb hfst
        have hlo := HAL.out.lo
        have HLO := Lib.hid hlo
        clear hlo
        generalize (fs0 id hT hV sI sT pat win vs ls (Rg.ens es)).g.base = bs at *
        go_wp2_with fail
        refine HFST.out.mono ?_
        rintro e w' ⟨rfl, rfl⟩
        go_wp2_with fail
        refine (HRG.out _).mono ?_
        rintro e w9 ⟨rfl, b', e', hnb, hgb, hF, ht, hvt, hfr⟩
        have HF := Lib.hid hF
        have HTV := Lib.hid (And.intro ht hvt)
        have HBZ := Lib.hid (Dk.Fr.to_below HB7.out hfr (fun i hi => HLO.out i (fmem.2 (by simp only [List.mem_cons, List.not_mem_nil, or_false] at hi; rcases hi with h | h | h; exact .inl h; exact .inr (.inl h); exact .inr (.inr (.inl h))))))
        have HNB := Lib.hid hnb
        clear hF ht hvt hfr hnb hgb
        go_wp2
        go_ret2
        refine ⟨HBZ.out, .inr ⟨b', _, ?_, HF.out, HTV.out.1.symm, HTV.out.2.symm⟩⟩
        rw [HNB.out]
        rfl
end Go.Proofs.YtjadfpcipicckaaGreat.Rf
