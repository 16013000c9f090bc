/-
  Layer 12: the group of a node, its members where it has no peers, slices.DeleteFunc over no turns, small answers. Conditions: as each theorem states.
-/
import Derived.Test.YtnhcbampojpgfaaGreatRfMem
import Derived.Test.YtnhcbampojpgfaaGreatRfG
import Derived.Test.YtnhcbampojpgfaaGreatIterI
import Derived.Deep.CutRange
namespace Go.Proofs.YtnhcbampojpgfaaGreat.Rf
open Go.RowKit Go.Shelf Go.Proofs.YtnhcbampojpgfaaGreat.Fld
set_option linter.unusedVariables false

theorem lastG_two (ts : List TA) (SV : Option Addr) (sn svc : Nat) (SL : Option Addr) (ln slc : Nat) : ∃ VA vn vc LA n lc, lastG ts #[.slice SV sn svc, .slice SL ln slc] = #[.slice VA vn vc, .slice LA n lc] := by
  unfold lastG
  cases ts.getLast? with
  | none => exact ⟨_, _, _, _, _, _, rfl⟩
  | some t => exact ⟨_, _, _, _, _, _, rfl⟩
set_option maxHeartbeats 800000 in
theorem group_any (nb gl : Nat) (last : Int) (A : Option Addr) (n cap : Nat) (ts : List TA) (SV : Option Addr) (sn svc : Nat) (SL : Option Addr) (ln slc : Nat) (w : World) (hr : RdTn w A n ts)
    (c3 : w.cell? ⟨nb, 3, none⟩ = some (.pointer (some ⟨gl, 0, none⟩))) (c6 : w.cell? ⟨nb, 6, none⟩ = some (.slice SV sn svc)) (c7 : w.cell? ⟨nb, 7, none⟩ = some (.slice SL ln slc)) (c9 : w.cell? ⟨nb, 9, none⟩ = some (.slice A n cap))
    (hL : ∀ W, Below w.heap.size w W → Calls Tryz.prog 39 #[.pointer (some ⟨gl, 0, none⟩)] W fun e w' => e = .returned (.int .i64 last) ∧ ∃ m, w' = W.drewN m) (hi : LastOk ts last) :
    Calls Tryz.prog 55 #[.pointer (some ⟨nb, 0, none⟩)] w fun e w' => e = .returned (.agg (lastG ts #[.slice SV sn svc, .slice SL ln slc])) ∧ Below w.heap.size w w' := by
  have hal := Rg.alloc_below' w (.cells #[.slice none 0 0, .slice none 0 0] 46)
  have HK := Lib.hid (Rg.Blk.new w #[.slice none 0 0, .slice none 0 0] 46)
  have HAL := Lib.hid hal
  have HLL := Lib.hid (hL _ hal)
  have HGA := Lib.hid (fun (W : World) (hW : Below w.heap.size w W) => (callsIn_wide (n := 6)).1 (groupAt_in nb last A n cap ts SV sn svc SL ln slc W (hr.below hW) ((hW.cell (p := ⟨nb, 6, none⟩) (lt_of_cell c6)).trans c6) ((hW.cell (p := ⟨nb, 7, none⟩) (lt_of_cell c7)).trans c7) ((hW.cell (p := ⟨nb, 9, none⟩) (lt_of_cell c9)).trans c9) hi))
  have d3 := (hal.cell (p := ⟨nb, 3, none⟩) (lt_of_cell c3)).trans c3
  obtain ⟨VA, vn, vc, LA, vln, lc, he⟩ := lastG_two ts SV sn svc SL ln slc
  rw [he] at HGA ⊢
  clear hr c3 c6 c7 c9 hL hi he hal
  go_enter Tryz.func55, Tryz.ntmps55
  go_wp2_with fail
  refine HLL.out.mono ?_
  rintro e w1 ⟨rfl, m, rfl⟩
  go_wp2_with fail
  have HB1 := Lib.hid (HAL.out.trans ((Qu.below_dr (w.alloc (.cells #[.slice none 0 0, .slice none 0 0] 46)) m).mono HAL.out.size))
  refine (HGA.out _ HB1.out).mono ?_
  rintro e w2 ⟨rfl, hb2⟩
  have HB2 := Lib.hid (HB1.out.trans (hb2.mono HB1.out.size))
  have k2 : Rg.Blk w2 w.heap.size #[.slice none 0 0, .slice none 0 0] 46 := by
    have hk : Rg.Blk ((w.alloc (.cells #[.slice none 0 0, .slice none 0 0] 46)).drewN m) w.heap.size #[.slice none 0 0, .slice none 0 0] 46 := HK.out
    exact hk.below hb2
  have HK2 := Lib.hid k2
  have g0 := k2.cell 0 _ rfl
  have g1 := k2.cell 1 _ rfl
  have f0 := k2.free 0
  have f1 := k2.free 1
  clear hb2 k2
  go_wp2
  have k3 := Rg.Blk.set (Rg.Blk.set HK2.out 0 (.slice VA vn vc) (by show 0 < 2; omega)) 1 (.slice LA vln lc) (by show 1 < 2; omega)
  refine bodyPost_ret (results_cell_row rfl _ _ w.heap.size _ _ (0, 0) _ rfl k3 Tryz.underlying46 rfl (by kernel_rfl)) rfl ?_
  exact ⟨rfl, (HB2.out.setCell (p := ⟨w.heap.size, 0, none⟩) (by simp) _).setCell (p := ⟨w.heap.size, 1, none⟩) (by simp) _⟩
theorem Al.c0 {lo : Nat} {w : World} {b : PB} {s : AS} (h : Al lo w b s) : w.cell? ⟨b.nb, 0, none⟩ = some (.pointer (some ⟨b.p.g, 0, none⟩)) := Qu.Blk.cell h.blk 0 _ rfl
theorem Al.c1 {lo : Nat} {w : World} {b : PB} {s : AS} (h : Al lo w b s) : w.cell? ⟨b.nb, 1, none⟩ = some (.int .i64 s.e.id) := Qu.Blk.cell h.blk 1 _ rfl
theorem Al.c2 {lo : Nat} {w : World} {b : PB} {s : AS} (h : Al lo w b s) : w.cell? ⟨b.nb, 2, none⟩ = some (.int .i64 s.win) := Qu.Blk.cell h.blk 2 _ rfl
theorem Al.c3 {lo : Nat} {w : World} {b : PB} {s : AS} (h : Al lo w b s) : w.cell? ⟨b.nb, 3, none⟩ = some (.pointer (some ⟨b.g, 0, none⟩)) := Qu.Blk.cell h.blk 3 _ rfl
theorem Al.c4 {lo : Nat} {w : World} {b : PB} {s : AS} (h : Al lo w b s) : w.cell? ⟨b.nb, 4, none⟩ = some (.int .i64 s.sI) := Qu.Blk.cell h.blk 4 _ rfl
theorem Al.c5 {lo : Nat} {w : World} {b : PB} {s : AS} (h : Al lo w b s) : w.cell? ⟨b.nb, 5, none⟩ = some (.int .i64 s.sT) := Qu.Blk.cell h.blk 5 _ rfl
theorem Al.c6 {lo : Nat} {w : World} {b : PB} {s : AS} (h : Al lo w b s) : w.cell? ⟨b.nb, 6, none⟩ = some (.slice b.SV 1 b.svc) := Qu.Blk.cell h.blk 6 _ rfl
theorem Al.c7 {lo : Nat} {w : World} {b : PB} {s : AS} (h : Al lo w b s) : w.cell? ⟨b.nb, 7, none⟩ = some (.slice b.SL 0 b.slc) := Qu.Blk.cell h.blk 7 _ rfl
theorem Al.c8 {lo : Nat} {w : World} {b : PB} {s : AS} (h : Al lo w b s) : w.cell? ⟨b.nb, 8, none⟩ = some (.slice b.SD b.sdn b.sdc) := Qu.Blk.cell h.blk 8 _ rfl
theorem Al.c9 {lo : Nat} {w : World} {b : PB} {s : AS} (h : Al lo w b s) : w.cell? ⟨b.nb, 9, none⟩ = some (.slice none 0 0) := Qu.Blk.cell h.blk 9 _ rfl
theorem Al.c10 {lo : Nat} {w : World} {b : PB} {s : AS} (h : Al lo w b s) : w.cell? ⟨b.nb, 10, none⟩ = some (.int .i64 s.hT) := Qu.Blk.cell h.blk 10 _ rfl
theorem Al.c11 {lo : Nat} {w : World} {b : PB} {s : AS} (h : Al lo w b s) : w.cell? ⟨b.nb, 11, none⟩ = some (.int .i64 s.hV) := Qu.Blk.cell h.blk 11 _ rfl
theorem Al.c12 {lo : Nat} {w : World} {b : PB} {s : AS} (h : Al lo w b s) : w.cell? ⟨b.nb, 12, none⟩ = some (.bool false) := Qu.Blk.cell h.blk 12 _ rfl
theorem Al.c13 {lo : Nat} {w : World} {b : PB} {s : AS} (h : Al lo w b s) : w.cell? ⟨b.nb, 13, none⟩ = some (.int .i64 0) := Qu.Blk.cell h.blk 13 _ rfl
theorem Al.c14 {lo : Nat} {w : World} {b : PB} {s : AS} (h : Al lo w b s) : w.cell? ⟨b.nb, 14, none⟩ = some (.int .i64 0) := Qu.Blk.cell h.blk 14 _ rfl
theorem Al.c15 {lo : Nat} {w : World} {b : PB} {s : AS} (h : Al lo w b s) : w.cell? ⟨b.nb, 15, none⟩ = some (.bool false) := Qu.Blk.cell h.blk 15 _ rfl
theorem Al.c16 {lo : Nat} {w : World} {b : PB} {s : AS} (h : Al lo w b s) : w.cell? ⟨b.nb, 16, none⟩ = some (.int .i64 0) := Qu.Blk.cell h.blk 16 _ rfl
theorem Al.c17 {lo : Nat} {w : World} {b : PB} {s : AS} (h : Al lo w b s) : w.cell? ⟨b.nb, 17, none⟩ = some (.int .i64 0) := Qu.Blk.cell h.blk 17 _ rfl
theorem Al.c18 {lo : Nat} {w : World} {b : PB} {s : AS} (h : Al lo w b s) : w.cell? ⟨b.nb, 18, none⟩ = some (.slice none 0 0) := Qu.Blk.cell h.blk 18 _ rfl
theorem Al.c19 {lo : Nat} {w : World} {b : PB} {s : AS} (h : Al lo w b s) : w.cell? ⟨b.nb, 19, none⟩ = some (.slice none 0 0) := Qu.Blk.cell h.blk 19 _ rfl
theorem Al.c20 {lo : Nat} {w : World} {b : PB} {s : AS} (h : Al lo w b s) : w.cell? ⟨b.nb, 20, none⟩ = some (.slice none 0 0) := Qu.Blk.cell h.blk 20 _ rfl
theorem Al.c21 {lo : Nat} {w : World} {b : PB} {s : AS} (h : Al lo w b s) : w.cell? ⟨b.nb, 21, none⟩ = some (.int .i64 s.frm) := Qu.Blk.cell h.blk 21 _ rfl
theorem Al.c22 {lo : Nat} {w : World} {b : PB} {s : AS} (h : Al lo w b s) : w.cell? ⟨b.nb, 22, none⟩ = some (.slice none 0 0) := Qu.Blk.cell h.blk 22 _ rfl
theorem Al.c23 {lo : Nat} {w : World} {b : PB} {s : AS} (h : Al lo w b s) : w.cell? ⟨b.nb, 23, none⟩ = some (b.rv) := Qu.Blk.cell h.blk 23 _ rfl
theorem Al.c24 {lo : Nat} {w : World} {b : PB} {s : AS} (h : Al lo w b s) : w.cell? ⟨b.nb, 24, none⟩ = some (.map b.pm) := Qu.Blk.cell h.blk 24 _ rfl
theorem Al.c25 {lo : Nat} {w : World} {b : PB} {s : AS} (h : Al lo w b s) : w.cell? ⟨b.nb, 25, none⟩ = some (.slice none 0 0) := Qu.Blk.cell h.blk 25 _ rfl
theorem Al.c26 {lo : Nat} {w : World} {b : PB} {s : AS} (h : Al lo w b s) : w.cell? ⟨b.nb, 26, none⟩ = some (.int .i64 0) := Qu.Blk.cell h.blk 26 _ rfl
theorem Al.free {lo : Nat} {w : World} {b : PB} {s : AS} (h : Al lo w b s) (i : Nat) : w.frozen? ⟨b.nb, i, none⟩ = false := Qu.Blk.free h.blk i
/-- its log's end -/
theorem Al.last {lo : Nat} {w : World} {b : PB} {s : AS} (h : Al lo w b s) (W : World) (hW : Below w.heap.size w W) : Calls Tryz.prog 39 #[.pointer (some ⟨b.g, 0, none⟩)] W fun e w' => e = .returned (.int .i64 s.g.last) ∧ ∃ m, w' = W.drewN m := by
  obtain ⟨A, cap, _, hl, _⟩ := (h.lg.below hW).slice
  exact hl.last_dr
theorem Al.term {lo : Nat} {w : World} {b : PB} {s : AS} (h : Al lo w b s) (i : Int) (W : World) (hW : Below w.heap.size w W) : Calls Tryz.prog 82 #[.pointer (some ⟨b.g, 0, none⟩), .int .i64 i] W fun e w' => e = .returned (.tuple #[.int .i64 (Rg.termV s.g i), .bool (Rg.termB s.g i)]) ∧ ∃ m, w' = W.drewN m := by
  obtain ⟨A, cap, _, hl, _⟩ := (h.lg.below hW).slice
  exact hl.term_dr i
theorem Al.com {lo : Nat} {w : World} {b : PB} {s : AS} (h : Al lo w b s) (W : World) (hW : Below w.heap.size w W) : Calls Tryz.prog 38 #[.pointer (some ⟨b.g, 0, none⟩)] W fun e w' => e = .returned (.int .i64 s.g.com) ∧ W = w' :=
  Rg.committed_any b.g _ _ _ _ _ W (h.lg.below hW).blk
/-- its group: itself alone -/
def grp1 (b : PB) : Value := .agg #[.slice b.SV 1 b.svc, .slice b.SL 0 b.slc]
theorem Al.group {lo : Nat} {w : World} {b : PB} {s : AS} (h : Al lo w b s) (W : World) (hW : Below w.heap.size w W) : Calls Tryz.prog 55 #[.pointer (some ⟨b.nb, 0, none⟩)] W fun e w' => e = .returned (grp1 b) ∧ Below W.heap.size W w' := by
  have hh := h.below hW
  exact group_any b.nb b.g s.g.last none 0 0 [] b.SV 1 b.svc b.SL 0 b.slc W (RdTn.nil _ _) (hh.c3) (hh.c6) (hh.c7) (hh.c9) (fun W' hW' => hh.last W' hW') (fun t ht => by simp at ht)
set_option maxRecDepth 100000 in
set_option maxHeartbeats 1000000 in
/-- it has no members -/
theorem Al.members {lo : Nat} {w : World} {b : PB} {s : AS} (h : Al lo w b s) (W : World) (hW : Below w.heap.size w W) : Calls Tryz.prog 105 #[.pointer (some ⟨b.nb, 0, none⟩)] W fun e w' => e = .returned (.slice none 0 0) ∧ Below W.heap.size W w' := by
  have hh := h.below hW
  have c24 := hh.c24
  have HPM := Lib.hid hh.pm
  clear h hW hh
  generalize b.pm = pm at *
  generalize b.nb = nb at *
  refine (callsIn_wide (n := 6)).1 ?_
  cases pm with
  | none =>
    have cK := Tryz.ksort_keys none W
    have cS := Tryz.ksort_nil W
    refine callsIn_of_wp Tryz.func105 rfl trivial ?_ rfl
    simp only [Tryz.ntmps105, List.size_toArray, List.length_cons, List.length_nil, Nat.reduceAdd, Nat.reduceSub, Array.replicate_succ, Array.replicate_zero, List.push_toArray, List.append_toArray, List.nil_append, List.cons_append]
    gi_wp2_with fail
    refine ⟨trivial, ?_⟩
    refine cK.mono ?_
    rintro e w' ⟨rfl, rfl⟩
    gi_wp2_with fail
    refine ⟨trivial, ?_⟩
    refine cS.mono ?_
    rintro e w' ⟨v, ss, rfl, rfl, hrow, hnil, hb⟩
    obtain rfl : v = .slice none 0 0 := hnil.2 rfl
    gi_wp2
    go_ret
    exact ⟨rfl, ((Below.refl _ W).alloc (Nat.le_refl _) _).trans (hb.mono (by simp))⟩
  | some m =>
    have hm := HPM.out m rfl
    have cK := Tryz.ksort_keys (some m) W
    have cS := Tryz.ksort_some m 0 _ noR W hm (by simp [Maps.size, maxLen]) (by simp [Maps.size])
    refine callsIn_of_wp Tryz.func105 rfl trivial ?_ rfl
    simp only [Tryz.ntmps105, List.size_toArray, List.length_cons, List.length_nil, Nat.reduceAdd, Nat.reduceSub, Array.replicate_succ, Array.replicate_zero, List.push_toArray, List.append_toArray, List.nil_append, List.cons_append]
    gi_wp2_with fail
    refine ⟨trivial, ?_⟩
    refine cK.mono ?_
    rintro e w' ⟨rfl, rfl⟩
    gi_wp2_with fail
    refine ⟨trivial, ?_⟩
    refine cS.mono ?_
    rintro e w' ⟨v, ss, rfl, hp, hrow, hnil, hb⟩
    obtain rfl : v = .slice none 0 0 := hnil.2 (List.Perm.eq_nil (by exact hp))
    gi_wp2
    go_ret
    exact ⟨rfl, ((Below.refl _ W).alloc (Nat.le_refl _) _).trans (hb.mono (by simp))⟩
end Go.Proofs.YtnhcbampojpgfaaGreat.Rf
