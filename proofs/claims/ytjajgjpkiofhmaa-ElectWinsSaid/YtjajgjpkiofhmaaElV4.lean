/-
  Layer 10, the laws' world: world. Conditions: from one to fifteen nodes; the logs can be read.
-/
import Derived.Test.YtjajgjpkiofhmaaElV3
import Derived.Test.YtjajgjpkiofhmaaElV2
namespace Go.Proofs.Ytjajgjpkiofhmaa.El
open Go.RowKit Go.Proofs.Ytjajgjpkiofhmaa.Qu Go.Proofs.Ytjajgjpkiofhmaa.Fld
set_option linter.unusedVariables false

theorem lgs_succ (k : Nat) (ls : List (Int × Int)) : (List.range (k + 1)).map (logAt ls) = (List.range k).map (logAt ls) ++ [logAt ls k] := by simp [List.range_succ]
theorem fresh_succ (m k : Nat) : ((List.range (k + 1)).map fun (i : Nat) => st0 ((i : Int) + 1) 0 0 (ids m) [] 3) = ((List.range k).map fun (i : Nat) => st0 ((i : Int) + 1) 0 0 (ids m) [] 3) ++ [st0 ((k : Int) + 1) 0 0 (ids m) [] 3] := by simp [List.range_succ]
theorem Wm.past {w0 w : World} {vs : List Int} {u : Wl} {d : Wd} (h : Wm w0 vs w u d) (o : Obj) : Wm w0 vs (w.alloc o) u d := h.below (alloc_below w o)
/-- the world's cells -/
theorem Wm.cells {w0 w : World} {vs : List Int} {u : Wl} {d : Wd} (h : Wm w0 vs w u d) : w.cell? ⟨u.g, 0, none⟩ = some u.vv ∧ w.cell? ⟨u.g, 1, none⟩ = some (.slice none 0 0) ∧ w.cell? ⟨u.g, 2, none⟩ = some u.nv ∧ w.cell? ⟨u.g, 3, none⟩ = some u.lv ∧ w.cell? ⟨u.g, 4, none⟩ = some u.sv ∧ w.cell? ⟨u.g, 5, none⟩ = some u.dv :=
  ⟨h.blk.cell 0 _ rfl, h.blk.cell 1 _ rfl, h.blk.cell 2 _ rfl, h.blk.cell 3 _ rfl, h.blk.cell 4 _ rfl, h.blk.cell 5 _ rfl⟩
theorem Wm.blkOf {w0 w W : World} {vs : List Int} {u : Wl} {d : Wd} (h : Wm w0 vs w u d) {v : Value} {e : TypeId} {s n lo : Nat} {xs : List Value} (hr : w.ownsRow lo e s v n xs) (he : e ≠ 61) (hg : w.grownBy W v.ownBlock) : Blk W u.g (wdC u) 61 :=
  (hg.block _ (Blk.lt h.blk) (row_ne hr h.blk he).symm).trans h.blk
set_option maxRecDepth 100000 in
set_option maxHeartbeats 6400000 in
theorem world_any (m : Nat) (h1 : 1 ≤ m) (hm : m ≤ 15) (LA : Option Addr) (ln lc : Nat) (ls : List (Int × Int)) (w : World) (hl : RdP w LA ln ls) : Calls Try.prog 24 #[.int .i64 (m : Int), .slice LA ln lc] w fun e w' => ∃ u, e = .returned (.pointer (some ⟨u.g, 0, none⟩)) ∧ Wm w (ids m) w' u (w0 m ls) := by
  have HS := Lib.hid (Wm.start w)
  have HL := Lib.hid (fun W (hW : Below w.heap.size w W) => hl.below hW)
  have HLN := Lib.hid hl.1
  have hln := hl.2.1
  unfold maxLen at hln
  clear hl
  unfold wdC u00 at HS
  go_enter Try.func24, Try.ntmps24
  go_wp2_with fail
  generalize hX : w.heap.size = X at *
  go_loopw [6] (fun i wr => ∃ (k : Nat) (u : Wl), k ≤ m ∧ i = .int .i64 ((k : Int) + 1) ∧ u.g = X ∧ Wm w (ids k) wr u ⟨[], (List.range k).map (logAt ls), [], []⟩) (fun i _ => m + 1 - (intOf i).toNat)
  case atStart => exact ⟨0, ⟨X, .slice none 0 0, .slice none 0 0, .slice none 0 0, .slice none 0 0, .slice none 0 0, []⟩, Nat.zero_le _, rfl, rfl, HS.out⟩
  case round =>
    obtain ⟨k, u, hk, rfl, rfl, hW⟩ := hrel
    have HW := Lib.hid hW
    by_cases hlt : k < m
    · have q2 : decide ((k : Int) + 1 ≤ (m : Int)) = true := by simp; omega
      obtain ⟨c0, c1, c2, c3, c4, c5⟩ := hW.cells
      have HWA := Lib.hid (hW.past (.cells #[.int .i64 ((k : Int) + 1)] 3))
      have k0 := HWA.out.cells.1
      have hsz := hW.bel.size
      clear hW
      go_upto_region 7 with (at_builtin; refine wpList_append1 eint rfl _ _ rfl w.heap.size u.vv k (vI (ids k)) rfl (by have := HWA.out.rv; rw [ids_len] at this; exact this) wr.heap.size 1 [.int .i64 ((k : Int) + 1)] rfl rfl (Blk.new wr _ _) (by simp [Value.oneCell']) (by omega) (by simp; omega) ?_; intro v1 w1 hr1 hg1 ha1; obtain ⟨A1, cc1, hv1, _⟩ := row_slice hr1; subst hv1; have HR1 := Lib.hid hr1; have HG1 := Lib.hid hg1; have hb1 := HWA.out.blkOf HWA.out.rv (by decide) hg1; have d0 := hb1.cell 0 _ rfl; have f0 := hb1.free 0; clear hr1 hg1 ha1 hb1)
      have hw1 := Wm.vote (k := (k : Int) + 1) HWA.out rfl (by have := HR1.out; rw [ids_len]; exact this) HG1.out
      rw [← ids_succ] at hw1
      obtain ⟨u1, hug, hul, hw1⟩ : ∃ u1 : Wl, u1.g = u.g ∧ u1.lv = u.lv ∧ Wm w (ids (k + 1)) (w1.setCell ⟨u.g, 0, none⟩ (.slice A1 (k + 1) cc1)) u1 ⟨[], (List.range k).map (logAt ls), [], []⟩ := by refine ⟨_, ?_, ?_, hw1⟩ <;> rfl
      clear c0 c1 c2 c3 c4 c5 k0 d0 f0
      have hz : (w1.setCell ⟨u.g, 0, none⟩ (.slice A1 (k + 1) cc1)).heap.size = w1.heap.size := by simp
      generalize w1.setCell ⟨u.g, 0, none⟩ (.slice A1 (k + 1) cc1) = w2 at *
      have HW2 := Lib.hid (hw1.past (.cells #[.int .i64 0, .int .i64 0] 38))
      have HB2 := Lib.hid (Blk.new w2 #[.int .i64 0, .int .i64 0] 38)
      have HGN := Lib.hid (show w2.heap.size ≠ u.g by have := hw1.blk.lt; rw [hug] at this; omega)
      have HBZ := Lib.hid (show w.heap.size ≤ w2.heap.size from hw1.bel.size)
      have HWX := Lib.hid hw1
      rw [hz] at HB2 HGN HBZ
      have g0 := HB2.out.cell 0 (.int .i64 0) rfl
      have g1 := HB2.out.cell 1 (.int .i64 0) rfl
      have fr0 := HB2.out.free 0
      have fr1 := HB2.out.free 1
      generalize hL : w1.heap.size = L at *
      clear hw1
      by_cases hll : k < ln
      · have q3 : decide ((k : Int) + 1 ≤ (ln : Int)) = true := by simp; omega
        obtain ⟨b, off, rfl, hcell⟩ := (HL.out _ (show Below u.g w (w2.alloc (.cells #[.int .i64 0, .int .i64 0] 38)) by rw [← hX]; exact HW2.out.bel)).2.2 (by omega)
        obtain ⟨t0, t1⟩ := hcell k hll
        clear hcell
        generalize hy : ls.getD k (0, 0) = y at *
        go_upto_region 9 with fail
        have HEL := Lib.hid (show logAt ls k = y by unfold logAt; rw [if_pos (by rw [HLN.out]; exact hll)]; exact hy)
        obtain ⟨wq, hwq⟩ : ∃ wq, w2.alloc (.cells #[.int .i64 y.1, .int .i64 y.2] 38) = wq := ⟨_, rfl⟩
        have HQ := Lib.hid (show Wm w (ids (k + 1)) wq u1 ⟨[], (List.range k).map (logAt ls), [], []⟩ from by rw [← hwq]; exact HWX.out.below (alloc_below w2 _))
        have HBQ := Lib.hid (show Blk wq L #[.int .i64 y.1, .int .i64 y.2] 38 from by rw [← hwq, ← hz]; exact Blk.new w2 _ _)
        rw [hwq]
        clear hwq g0 g1 fr0 fr1
        have c3 := HQ.out.cells.2.2.2.1
        rw [hug, hul] at c3
        have z0 := HBQ.out.cell 0 _ rfl
        have z1 := HBQ.out.cell 1 _ rfl
        have HQA := Lib.hid (HQ.out.past (.cells #[.int .i64 y.1, .int .i64 y.2] 38))
        have c3a := HQA.out.cells.2.2.2.1
        rw [hug, hul] at c3a
        have HQD := Lib.hid (HQA.out.below (below_d1 _))
        have hrl := HQD.out.rl
        have hll' : (⟨[], (List.range k).map (logAt ls), [], []⟩ : Wd).logs.length = k := by simp
        rw [hul, hll'] at hrl
        have HRL := Lib.hid hrl
        have hqs : w.heap.size ≤ wq.heap.size := HQ.out.bel.size
        clear hrl
        go_region_law ((refine step_append1 epair rfl _ _ rfl w.heap.size u.lv k (rowP ((List.range k).map (logAt ls))) rfl (by exact HRL.out) wq.heap.size 1 [.int .i64 y.1, .int .i64 y.2] rfl rfl (by exact Blk.new wq _ _) (by simp [Value.oneCell']) (by omega) (by simp; omega) ?_; intro v3 w3 hr3 hg3 ha3; obtain ⟨A3, cc3, hv3, _⟩ := row_slice hr3; subst hv3; have HR3 := Lib.hid hr3; have HG3 := Lib.hid hg3; have hb3 := HQD.out.blkOf HQD.out.rl (by decide) (by rw [hul]; exact hg3); have x3 := hb3.cell 3 _ rfl; have f3 := hb3.free 3; rw [hug] at x3 f3; clear hr3 hg3 ha3 hb3))
        all_goals
          go_wp2_with fail
          go_roundw
          case rel =>
            have h9 := Wm.logs (y := y) HQD.out rfl (by rw [hll']; exact HR3.out) (by rw [hul]; exact HG3.out)
            rw [hug] at h9
            refine ⟨k + 1, _, by omega, by go_num, ?_, by rw [lgs_succ, HEL.out]; exact h9⟩
            first | rfl | exact hug
          case measure => simp [intOf]; omega
      · have q3 : decide ((k : Int) + 1 ≤ (ln : Int)) = false := by simp; omega
        go_upto_region 9 with fail
        have HEL := Lib.hid (show logAt ls k = (0, 0) by unfold logAt; rw [if_neg (by rw [HLN.out]; exact hll)])
        obtain ⟨wq, hwq⟩ : ∃ wq, w2.alloc (.cells #[.int .i64 0, .int .i64 0] 38) = wq := ⟨_, rfl⟩
        have HQ := Lib.hid (show Wm w (ids (k + 1)) wq u1 ⟨[], (List.range k).map (logAt ls), [], []⟩ from by rw [← hwq]; exact HWX.out.below (alloc_below w2 _))
        have HBQ := Lib.hid (show Blk wq L #[.int .i64 0, .int .i64 0] 38 from by rw [← hwq, ← hz]; exact Blk.new w2 _ _)
        rw [hwq]
        clear hwq g0 g1 fr0 fr1
        have c3 := HQ.out.cells.2.2.2.1
        rw [hug, hul] at c3
        have z0 := HBQ.out.cell 0 _ rfl
        have z1 := HBQ.out.cell 1 _ rfl
        have HQA := Lib.hid (HQ.out.past (.cells #[.int .i64 0, .int .i64 0] 38))
        have c3a := HQA.out.cells.2.2.2.1
        rw [hug, hul] at c3a
        have HQD := Lib.hid (HQA.out.below (below_d1 _))
        have hrl := HQD.out.rl
        have hll' : (⟨[], (List.range k).map (logAt ls), [], []⟩ : Wd).logs.length = k := by simp
        rw [hul, hll'] at hrl
        have HRL := Lib.hid hrl
        have hqs : w.heap.size ≤ wq.heap.size := HQ.out.bel.size
        clear hrl
        go_region_law ((refine step_append1 epair rfl _ _ rfl w.heap.size u.lv k (rowP ((List.range k).map (logAt ls))) rfl (by exact HRL.out) wq.heap.size 1 [.int .i64 0, .int .i64 0] rfl rfl (by exact Blk.new wq _ _) (by simp [Value.oneCell']) (by omega) (by simp; omega) ?_; intro v3 w3 hr3 hg3 ha3; obtain ⟨A3, cc3, hv3, _⟩ := row_slice hr3; subst hv3; have HR3 := Lib.hid hr3; have HG3 := Lib.hid hg3; have hb3 := HQD.out.blkOf HQD.out.rl (by decide) (by rw [hul]; exact hg3); have x3 := hb3.cell 3 _ rfl; have f3 := hb3.free 3; rw [hug] at x3 f3; clear hr3 hg3 ha3 hb3))
        all_goals
          go_wp2_with fail
          go_roundw
          case rel =>
            have h9 := Wm.logs (y := (0, 0)) HQD.out rfl (by rw [hll']; exact HR3.out) (by rw [hul]; exact HG3.out)
            rw [hug] at h9
            refine ⟨k + 1, _, by omega, by go_num, ?_, by rw [lgs_succ, HEL.out]; exact h9⟩
            first | rfl | exact hug
          case measure => simp [intOf]; omega
    · obtain rfl : k = m := by omega
      have q2 : decide ((k : Int) + 1 ≤ (k : Int)) = false := by simp; omega
      clear HS HL HLN hln
      go_wp2_with fail
      go_loopw [8] (fun i wr => ∃ (j : Nat) (u1 : Wl), j ≤ k ∧ i = .int .i64 ((j : Int) + 1) ∧ u1.g = u.g ∧ Wm w (ids k) wr u1 ⟨(List.range j).map fun (i : Nat) => st0 ((i : Int) + 1) 0 0 (ids k) [] 3, (List.range k).map (logAt ls), [], []⟩) (fun i _ => k + 1 - (intOf i).toNat)
      case atStart => exact ⟨0, u, Nat.zero_le _, rfl, rfl, HW.out⟩
      case round =>
        obtain ⟨j, u1, hj, rfl, hug, hW⟩ := hrel
        have HW := Lib.hid hW
        by_cases hjt : j < k
        · have q2 : decide ((j : Int) + 1 ≤ (k : Int)) = true := by simp; omega
          have c0 := hW.cells.1
          have c1 := hW.cells.2.1
          have hrv := hW.rv
          obtain ⟨VA, vc, hvv, _⟩ := row_slice hrv
          rw [hvv] at c0 hrv
          rw [hug] at c0 c1
          have HRI := Lib.hid (rowI_read hrv)
          have HN := Lib.hid (new_ok ((j : Int) + 1) 0 0 3 VA vc (ids k) none 0 [] wr HRI.out (RdI.nil _ _) (new_ok0 k j h1 hm hjt))
          unfold grpV at HN
          rw [ids_len] at HN c0
          clear hW hrv hvv
          go_wp2_with fail
          refine HN.out.mono ?_
          rintro e w1 ⟨p, rfl, hm1⟩
          have HM1 := Lib.hid hm1
          have HW1 := Lib.hid (HW.out.below hm1.bel)
          have HWA := Lib.hid (HW1.out.past (.cells #[.pointer (some ⟨p.g, 0, none⟩)] 31))
          have e2 := HW1.out.cells.2.2.1
          have e2a := HWA.out.cells.2.2.1
          have hpl := HW1.out.pl
          have hpl' : u1.ps.length = j := by rw [hpl]; simp
          have hsz := HW1.out.bel.size
          rw [hug] at e2 e2a
          clear hm1 c0 c1 hpl
          go_wp2_with (at_builtin; refine wpList_append1 eptr rfl _ _ rfl w.heap.size u1.nv j (ptrs u1.ps) rfl (by have := HWA.out.rn; rw [hpl'] at this; exact this) w1.heap.size 1 [.pointer (some ⟨p.g, 0, none⟩)] rfl rfl (Blk.new w1 _ _) (by simp [Value.oneCell']) (by omega) (by simp; omega) ?_; intro v3 w3 hr3 hg3 ha3; obtain ⟨A3, cc3, hv3, _⟩ := row_slice hr3; subst hv3; have HR3 := Lib.hid hr3; have HG3 := Lib.hid hg3; have HA3 := Lib.hid ha3; have hb3 := HWA.out.blkOf HWA.out.rn (by decide) hg3; have x3 := hb3.cell 2 _ rfl; have f3 := hb3.free 2; rw [hug] at x3 f3; clear hr3 hg3 ha3 hb3)
          go_roundw
          case rel =>
            have h9 := Wm.push HW.out HM1.out (alloc_below w1 (.cells #[.pointer (some ⟨p.g, 0, none⟩)] 31)) (by rw [hpl']; exact HR3.out) HG3.out HA3.out
            rw [hug] at h9
            refine ⟨j + 1, _, by omega, by go_num, ?_, by rw [fresh_succ]; exact h9⟩
            first | rfl | exact hug
          case measure => simp [intOf]; omega
        · obtain rfl : j = k := by omega
          have q2 : decide ((j : Int) + 1 ≤ (j : Int)) = false := by simp; omega
          go_wp2
          go_ret
          exact ⟨u1, by rw [hug]; rfl, HW.out⟩
end Go.Proofs.Ytjajgjpkiofhmaa.El
