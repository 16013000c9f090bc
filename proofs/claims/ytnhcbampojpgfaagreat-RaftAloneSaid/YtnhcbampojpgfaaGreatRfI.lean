/-
  Layer 12, a node that is alone: settled, ask, Read. Conditions: the node lies in memory, leads, and the entry at Committed has its term.
-/
import Derived.Test.YtnhcbampojpgfaaGreatRfH
namespace Go.Proofs.YtnhcbampojpgfaaGreat.Rf
open Go.RowKit Go.Shelf Go.Proofs.YtnhcbampojpgfaaGreat.Fld
open Go.Proofs.YtnhcbampojpgfaaGreat.Qu (RdI)
set_option linter.unusedVariables false

set_option maxHeartbeats 1600000 in
theorem settled_any {lo : Nat} {w : World} {b : PB} {s : AS} (h : Al lo w b s) (ht : Rg.termV s.g s.g.com = s.e.term) : Calls Tryz.prog 52 #[.pointer (some ⟨b.nb, 0, none⟩)] w fun e w' => e = .returned (.bool true) ∧ Below w.heap.size w w' := by
  have c3 := h.c3
  have c0 := h.c0
  have HCO := Lib.hid (fun W (hW : Below w.heap.size w W) => h.com W hW)
  have HT := Lib.hid (fun W (hW : Below w.heap.size w W) => h.term s.g.com W hW)
  rw [ht] at HT
  have HH := Lib.hid (fun W (hW : Below w.heap.size w W) => El.hard_any b.p s.e W (h.el.below hW))
  have qf := fun W => field_hard s.e.term s.e.vote W
  have q2 : (s.e.term == s.e.term) = true := by simp
  have HBd := Lib.hid (Below.refl w.heap.size w).drew
  clear h ht
  go_enter Tryz.func52, Tryz.ntmps52
  go_wp2_with fail
  go_region_held3 (fun w' => w'.cell? ⟨b.nb, 3, none⟩ = some (.pointer (some ⟨b.g, 0, none⟩))) (first | exact (by assumption) | go_keep) (first
    | (go_at_call 38; refine (HCO.out _ (by exact HBd.out)).mono ?_; rintro e w' ⟨rfl, rfl⟩)
    | (go_at_call 82; refine (HT.out _ (by exact HBd.out)).mono ?_; rintro e w' ⟨rfl, k, rfl⟩; have c3 : (w.drewN (1 + k)).cell? ⟨b.nb, 3, none⟩ = _ := c3))
  all_goals
    have HB1 := Lib.hid (Qu.below_dr w (1 + k))
    have c0 : (w.drewN (1 + k)).cell? ⟨b.nb, 0, none⟩ = _ := c0
    go_wp2_with fail
    refine (HH.out _ HB1.out).mono ?_
    rintro e w2 ⟨rfl, hb2⟩
    have HB2 := Lib.hid (HB1.out.trans (hb2.mono HB1.out.size))
    clear hb2
    go_wp2
    go_ret
    exact ⟨rfl, HB2.out⟩
theorem wins_alone {lo : Nat} {w : World} {b : PB} {s : AS} (h : Al lo w b s) : Qu.winsG [s.e.id] [] [s.e.id] = true := by
  have hg : Qu.grpOk [s.e.id] [] = true := by have := h.el.ok.grp; rw [h.vs, h.ls] at this; exact this
  unfold Qu.winsG
  rw [hg, Bool.true_and]
  simp [Qu.need, Qu.cnt, Qu.hasI]
theorem read_blk {lo : Nat} {w w6 : World} {b : PB} {s : AS} (h : Al lo w b s) (hg : w.grownBy w6 b.rv.ownBlock) : Rg.Blk w6 b.nb (ndR b s) 60 :=
  (hg.block _ h.blk.lt (fun e => h.nb_ne.2.2.2.2.1 e.symm)).trans h.blk
set_option maxRecDepth 100000 in
set_option maxHeartbeats 800000 in
theorem ask_any {lo : Nat} {w : World} {b : PB} {s : AS} (tok idx : Int) (h : Al lo w b s) (hn : s.rd.length ≤ 1000000) : Calls Tryz.prog 53 #[.pointer (some ⟨b.nb, 0, none⟩), .agg #[.int .i64 tok, .int .i64 idx]] w fun e w' => e = .returned (.tuple #[]) ∧ ∃ v', Aft lo w w' b { b with rv := v' } { s with rd := s.rd ++ [(tok, idx)] } := by
  have hal := Rg.alloc_below' w (.cells #[.int .i64 tok, .int .i64 idx] 77)
  have HK := Lib.hid (Rg.Blk.new w #[.int .i64 tok, .int .i64 idx] 77)
  have hh := h.below hal
  have HS := Lib.hid h
  have HAL := Lib.hid hal
  have c1 := hh.c1
  have HW := Lib.hid (wins_alone h)
  obtain ⟨RA, rc, hrv, _⟩ := Rg.row_slice h.rv
  have HRV := Lib.hid hrv
  have HN := Lib.hid hn
  clear h hal hh hrv hn
  go_enter Tryz.func53, Tryz.ntmps53
  go_wp2_with fail
  generalize hw1 : w.alloc (.cells #[.int .i64 tok, .int .i64 idx] 77) = w1 at *
  have hsz : w1.heap.size = w.heap.size + 1 := by rw [← hw1]; simp
  have hb2 := HAL.out.alloc HAL.out.size (.cells #[.int .i64 s.e.id] 3)
  have HB2 := Lib.hid hb2
  have HK2 := Lib.hid (HK.out.below (Rg.alloc_below' w1 (.cells #[.int .i64 s.e.id] 3)))
  have HRI := Lib.hid (Qu.rdI_one w1 s.e.id)
  generalize hw2 : w1.alloc (.cells #[.int .i64 s.e.id] 3) = w2 at *
  have HG := Lib.hid (HS.out.group w2 HB2.out)
  have HWN := Lib.hid (fun W (hW : Below w2.heap.size w2 W) => show Calls Tryz.prog 114 #[grp1 b, .slice (some ⟨w1.heap.size, 0, none⟩) 1 1] W _ from Qu.wins_any b.SV 1 b.svc [s.e.id] b.SL 0 b.slc [] (some ⟨w1.heap.size, 0, none⟩) 1 1 [s.e.id] W (HS.out.sv.below (HB2.out.trans (hW.mono HB2.out.size))) (Qu.RdI.nil _ _) (HRI.out.below hW))
  rw [HW.out, hsz] at HWN
  clear hsz
  clear hb2
  go_wp2_with fail
  refine HG.out.mono ?_
  rintro e w3 ⟨rfl, hb3⟩
  have HB3 := Lib.hid hb3
  clear hb3
  go_wp2_with fail
  refine (HWN.out w3 HB3.out).mono ?_
  rintro e w4 ⟨rfl, hb4⟩
  have HB4 := Lib.hid (HB3.out.trans (hb4.mono HB3.out.size))
  have HB5 := Lib.hid (HB2.out.trans (HB4.out.mono HB2.out.size))
  have HS4 := Lib.hid (HS.out.below HB5.out)
  have HK4 := Lib.hid (HK2.out.below HB4.out)
  clear hb4 c1 hw1 hw2
  have d23 := HS4.out.c23
  rw [HRV.out] at d23
  have k0 := HK4.out.cell 0 (.int .i64 tok) rfl
  have k1 := HK4.out.cell 1 (.int .i64 idx) rfl
  have f23 := HS4.out.free 23
  have HS5 := Lib.hid (show Al lo (w4.alloc (.cells #[.int .i64 tok, .int .i64 idx] 77)).drew b s from HS4.out.below ((Rg.alloc_below' w4 (.cells #[.int .i64 tok, .int .i64 idx] 77)).drew))
  have HRW := Lib.hid HS5.out.rv
  have HLO := Lib.hid (show lo ≤ w4.heap.size from Nat.le_trans (HS4.out.lo b.nb (mem_foot.2 (by simp))) (Nat.le_of_lt HS4.out.blk.lt))
  rw [HRV.out] at HRW
  obtain ⟨n, hn⟩ : ∃ n, s.rd.length = n := ⟨_, rfl⟩
  have HNN := Lib.hid hn
  rw [hn] at d23 HRW HN HRV
  clear hn
  have HB6 := Lib.hid (HB5.out.trans (((Rg.alloc_below' w4 (.cells #[.int .i64 tok, .int .i64 idx] 77)).drew).mono HB5.out.size))
  have e23 := ((Rg.alloc_below' w4 (.cells #[.int .i64 tok, .int .i64 idx] 77)).cell (p := ⟨b.nb, 23, none⟩) (lt_of_cell d23)).trans d23
  have ef := HS5.out.free 23
  go_upto_region 3 with fail
  go_region_law ((refine step_append1 eread rfl _ _ rfl lo (.slice RA n rc) n (rowP s.rd) rfl (by exact HRW.out) w4.heap.size 1 [.int .i64 tok, .int .i64 idx] rfl rfl (by exact Rg.Blk.new w4 _ _) (by simp [Value.oneCell']) (by have := HN.out; omega) (by simp; have := HLO.out; omega) ?_; intro v6 w6 hr6 hg6 ha6; obtain ⟨A6, c6, hv6, _⟩ := Rg.row_slice hr6; subst hv6; have HR6 := Lib.hid hr6; have HG6 := Lib.hid hg6; have HA6 := Lib.hid ha6; have kb := read_blk HS5.out (w6 := w6) (by rw [HRV.out]; exact hg6); have x23 : w6.cell? ⟨b.nb, 23, none⟩ = some (.slice RA n rc) := (by rw [← HRV.out]; exact kb.cell 23 _ rfl); have f23 := kb.free 23; clear hr6 hg6 ha6 kb))
  all_goals
    go_wp2
    refine bodyPost_ret (results_none rfl _ _ _) rfl ?_
    refine ⟨rfl, _, Aft.past HS.out HB6.out (HS5.out.read (tok := tok) (idx := idx) (by rw [HRV.out]; exact HG6.out) (by rw [HNN.out]; exact HR6.out) (by rw [HRV.out]; exact HA6.out))⟩
set_option maxHeartbeats 1600000 in
theorem read_any {lo : Nat} {w : World} {b : PB} {s : AS} (tok : Int) (h : Al lo w b s) (hn : s.rd.length ≤ 1000000) (h3 : s.e.role = 3) (ht : Rg.termV s.g s.g.com = s.e.term) : Calls Tryz.prog 20 #[.pointer (some ⟨b.nb, 0, none⟩), .int .i64 tok] w fun e w' => e = .returned (.int .i64 0) ∧ ∃ v', Aft lo w w' b { b with rv := v' } { s with rd := s.rd ++ [(tok, s.g.com)] } := by
  have c0 := h.c0
  have HRO := Lib.hid (El.role_any b.p s.e w h.el)
  rw [h3] at HRO
  have HST := Lib.hid (settled_any h ht)
  have HS := Lib.hid h
  have HCO := Lib.hid (fun W (hW : Below w.heap.size w W) => h.com W hW)
  have HASK := Lib.hid (fun W (hW : Below w.heap.size w W) => ask_any tok s.g.com (h.below hW) hn)
  clear h h3 ht hn
  go_enter Tryz.func20, Tryz.ntmps20
  go_wp2_with fail
  refine HRO.out.mono ?_
  rintro e w' ⟨rfl, rfl⟩
  go_wp2_with fail
  refine HST.out.mono ?_
  rintro e w1 ⟨rfl, hb1⟩
  have HB1 := Lib.hid hb1
  have HS1 := Lib.hid (HS.out.below hb1)
  have c25 := HS1.out.c25
  have c3 := HS1.out.c3
  clear hb1 c0
  go_wp2_with fail
  refine (HCO.out w1 HB1.out).mono ?_
  rintro e w' ⟨rfl, rfl⟩
  go_wp2_with fail
  refine (HASK.out w1 HB1.out).mono ?_
  rintro e w2 ⟨rfl, v', hA⟩
  have HA := Lib.hid (Aft.past HS.out HB1.out hA)
  clear hA
  go_wp2
  go_ret
  exact ⟨rfl, v', HA.out⟩
end Go.Proofs.YtnhcbampojpgfaaGreat.Rf
