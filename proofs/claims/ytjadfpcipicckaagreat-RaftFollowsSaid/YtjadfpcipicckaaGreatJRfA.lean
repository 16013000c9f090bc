/-
  Several texts in one: Layer 12: the group of a node, its members where it has no peers, slices.DeleteFunc over no turns, small answers. Conditions: as each theorem states. Layer 12, a node that is alone: meet (no peers come, none goes), regroup (no turns). Conditions: the node lies in memory.
-/
import Derived.Test.YtjadfpcipicckaaGreatRfMem
import Derived.Test.YtjadfpcipicckaaGreatRfG
import Derived.Test.YtjadfpcipicckaaGreatIterI
import Derived.Deep.CutRange
import Derived.Test.YtjadfpcipicckaaGreatJQuC
import Derived.Deep.RegionHeld3
namespace Go.Proofs.YtjadfpcipicckaaGreat.Rf
open Go.RowKit Go.Shelf Go.Proofs.YtjadfpcipicckaaGreat.Fld
set_option linter.unusedVariables false

theorem lastG_two (ts : List TA) (SV : Option Addr) (sn svc : Nat) (SL : Option Addr) (ln slc : Nat) : ∃ VA vn vc LA n lc, lastG ts #[.slice SV sn svc, .slice SL ln slc] = #[.slice VA vn vc, .slice LA n lc] := by
  unfold lastG
  cases ts.getLast? with
  | none => exact ⟨_, _, _, _, _, _, rfl⟩
  | some t => exact ⟨_, _, _, _, _, _, rfl⟩
set_option maxHeartbeats 800000 in
theorem group_any (nb gl : Nat) (last : Int) (A : Option Addr) (n cap : Nat) (ts : List TA) (SV : Option Addr) (sn svc : Nat) (SL : Option Addr) (ln slc : Nat) (w : World) (hr : RdTn w A n ts)
    (c3 : w.cell? ⟨nb, 3, none⟩ = some (.pointer (some ⟨gl, 0, none⟩))) (c6 : w.cell? ⟨nb, 6, none⟩ = some (.slice SV sn svc)) (c7 : w.cell? ⟨nb, 7, none⟩ = some (.slice SL ln slc)) (c9 : w.cell? ⟨nb, 9, none⟩ = some (.slice A n cap))
    (hL : ∀ W, Below w.heap.size w W → Calls Tryz.prog 22 #[.pointer (some ⟨gl, 0, none⟩)] W fun e w' => e = .returned (.int .i64 last) ∧ ∃ m, w' = W.drewN m) (hi : LastOk ts last) :
    Calls Tryz.prog 25 #[.pointer (some ⟨nb, 0, none⟩)] w fun e w' => e = .returned (.agg (lastG ts #[.slice SV sn svc, .slice SL ln slc])) ∧ Below w.heap.size w w' := by
  have hal := Rg.alloc_below' w (.cells #[.slice none 0 0, .slice none 0 0] 26)
  have HK := Lib.hid (Rg.Blk.new w #[.slice none 0 0, .slice none 0 0] 26)
  have HAL := Lib.hid hal
  have HLL := Lib.hid (hL _ hal)
  have HGA := Lib.hid (fun (W : World) (hW : Below w.heap.size w W) => (callsIn_wide (n := 6)).1 (groupAt_in nb last A n cap ts SV sn svc SL ln slc W (hr.below hW) ((hW.cell (p := ⟨nb, 6, none⟩) (lt_of_cell c6)).trans c6) ((hW.cell (p := ⟨nb, 7, none⟩) (lt_of_cell c7)).trans c7) ((hW.cell (p := ⟨nb, 9, none⟩) (lt_of_cell c9)).trans c9) hi))
  have d3 := (hal.cell (p := ⟨nb, 3, none⟩) (lt_of_cell c3)).trans c3
  obtain ⟨VA, vn, vc, LA, vln, lc, he⟩ := lastG_two ts SV sn svc SL ln slc
  rw [he] at HGA ⊢
  clear hr c3 c6 c7 c9 hL hi he hal
  go_enter Tryz.func25, Tryz.ntmps25
  go_wp2_with fail
  refine HLL.out.mono ?_
  rintro e w1 ⟨rfl, m, rfl⟩
  go_wp2_with fail
  have HB1 := Lib.hid (HAL.out.trans ((Qu.below_dr (w.alloc (.cells #[.slice none 0 0, .slice none 0 0] 26)) m).mono HAL.out.size))
  refine (HGA.out _ HB1.out).mono ?_
  rintro e w2 ⟨rfl, hb2⟩
  have HB2 := Lib.hid (HB1.out.trans (hb2.mono HB1.out.size))
  have k2 : Rg.Blk w2 w.heap.size #[.slice none 0 0, .slice none 0 0] 26 := by
    have hk : Rg.Blk ((w.alloc (.cells #[.slice none 0 0, .slice none 0 0] 26)).drewN m) w.heap.size #[.slice none 0 0, .slice none 0 0] 26 := HK.out
    exact hk.below hb2
  have HK2 := Lib.hid k2
  have g0 := k2.cell 0 _ rfl
  have g1 := k2.cell 1 _ rfl
  have f0 := k2.free 0
  have f1 := k2.free 1
  clear hb2 k2
  go_wp2
  have k3 := Rg.Blk.set (Rg.Blk.set HK2.out 0 (.slice VA vn vc) (by show 0 < 2; omega)) 1 (.slice LA vln lc) (by show 1 < 2; omega)
  refine bodyPost_ret (results_cell_row rfl _ _ w.heap.size _ _ (0, 0) _ rfl k3 Tryz.underlying26 rfl (by kernel_rfl)) rfl ?_
  exact ⟨rfl, (HB2.out.setCell (p := ⟨w.heap.size, 0, none⟩) (by simp) _).setCell (p := ⟨w.heap.size, 1, none⟩) (by simp) _⟩
theorem Al.c0 {lo : Nat} {w : World} {b : PB} {s : AS} (h : Al lo w b s) : w.cell? ⟨b.nb, 0, none⟩ = some (.pointer (some ⟨b.p.g, 0, none⟩)) := Qu.Blk.cell h.blk 0 _ rfl
theorem Al.c1 {lo : Nat} {w : World} {b : PB} {s : AS} (h : Al lo w b s) : w.cell? ⟨b.nb, 1, none⟩ = some (.int .i64 s.e.id) := Qu.Blk.cell h.blk 1 _ rfl
theorem Al.c2 {lo : Nat} {w : World} {b : PB} {s : AS} (h : Al lo w b s) : w.cell? ⟨b.nb, 2, none⟩ = some (.int .i64 s.win) := Qu.Blk.cell h.blk 2 _ rfl
theorem Al.c3 {lo : Nat} {w : World} {b : PB} {s : AS} (h : Al lo w b s) : w.cell? ⟨b.nb, 3, none⟩ = some (.pointer (some ⟨b.g, 0, none⟩)) := Qu.Blk.cell h.blk 3 _ rfl
theorem Al.c4 {lo : Nat} {w : World} {b : PB} {s : AS} (h : Al lo w b s) : w.cell? ⟨b.nb, 4, none⟩ = some (.int .i64 s.sI) := Qu.Blk.cell h.blk 4 _ rfl
theorem Al.c5 {lo : Nat} {w : World} {b : PB} {s : AS} (h : Al lo w b s) : w.cell? ⟨b.nb, 5, none⟩ = some (.int .i64 s.sT) := Qu.Blk.cell h.blk 5 _ rfl
theorem Al.c6 {lo : Nat} {w : World} {b : PB} {s : AS} (h : Al lo w b s) : w.cell? ⟨b.nb, 6, none⟩ = some (.slice b.SV 1 b.svc) := Qu.Blk.cell h.blk 6 _ rfl
theorem Al.c7 {lo : Nat} {w : World} {b : PB} {s : AS} (h : Al lo w b s) : w.cell? ⟨b.nb, 7, none⟩ = some (.slice b.SL 0 b.slc) := Qu.Blk.cell h.blk 7 _ rfl
theorem Al.c8 {lo : Nat} {w : World} {b : PB} {s : AS} (h : Al lo w b s) : w.cell? ⟨b.nb, 8, none⟩ = some (.slice b.SD b.sdn b.sdc) := Qu.Blk.cell h.blk 8 _ rfl
theorem Al.c9 {lo : Nat} {w : World} {b : PB} {s : AS} (h : Al lo w b s) : w.cell? ⟨b.nb, 9, none⟩ = some (.slice none 0 0) := Qu.Blk.cell h.blk 9 _ rfl
theorem Al.c10 {lo : Nat} {w : World} {b : PB} {s : AS} (h : Al lo w b s) : w.cell? ⟨b.nb, 10, none⟩ = some (.int .i64 s.hT) := Qu.Blk.cell h.blk 10 _ rfl
theorem Al.c11 {lo : Nat} {w : World} {b : PB} {s : AS} (h : Al lo w b s) : w.cell? ⟨b.nb, 11, none⟩ = some (.int .i64 s.hV) := Qu.Blk.cell h.blk 11 _ rfl
theorem Al.c12 {lo : Nat} {w : World} {b : PB} {s : AS} (h : Al lo w b s) : w.cell? ⟨b.nb, 12, none⟩ = some (.bool false) := Qu.Blk.cell h.blk 12 _ rfl
theorem Al.c13 {lo : Nat} {w : World} {b : PB} {s : AS} (h : Al lo w b s) : w.cell? ⟨b.nb, 13, none⟩ = some (.int .i64 0) := Qu.Blk.cell h.blk 13 _ rfl
theorem Al.c14 {lo : Nat} {w : World} {b : PB} {s : AS} (h : Al lo w b s) : w.cell? ⟨b.nb, 14, none⟩ = some (.int .i64 0) := Qu.Blk.cell h.blk 14 _ rfl
theorem Al.c15 {lo : Nat} {w : World} {b : PB} {s : AS} (h : Al lo w b s) : w.cell? ⟨b.nb, 15, none⟩ = some (.bool false) := Qu.Blk.cell h.blk 15 _ rfl
theorem Al.c16 {lo : Nat} {w : World} {b : PB} {s : AS} (h : Al lo w b s) : w.cell? ⟨b.nb, 16, none⟩ = some (.int .i64 0) := Qu.Blk.cell h.blk 16 _ rfl
theorem Al.c17 {lo : Nat} {w : World} {b : PB} {s : AS} (h : Al lo w b s) : w.cell? ⟨b.nb, 17, none⟩ = some (.int .i64 0) := Qu.Blk.cell h.blk 17 _ rfl
theorem Al.c18 {lo : Nat} {w : World} {b : PB} {s : AS} (h : Al lo w b s) : w.cell? ⟨b.nb, 18, none⟩ = some (.slice none 0 0) := Qu.Blk.cell h.blk 18 _ rfl
theorem Al.c19 {lo : Nat} {w : World} {b : PB} {s : AS} (h : Al lo w b s) : w.cell? ⟨b.nb, 19, none⟩ = some (.slice none 0 0) := Qu.Blk.cell h.blk 19 _ rfl
theorem Al.c20 {lo : Nat} {w : World} {b : PB} {s : AS} (h : Al lo w b s) : w.cell? ⟨b.nb, 20, none⟩ = some (.slice none 0 0) := Qu.Blk.cell h.blk 20 _ rfl
theorem Al.c21 {lo : Nat} {w : World} {b : PB} {s : AS} (h : Al lo w b s) : w.cell? ⟨b.nb, 21, none⟩ = some (.int .i64 s.frm) := Qu.Blk.cell h.blk 21 _ rfl
theorem Al.c22 {lo : Nat} {w : World} {b : PB} {s : AS} (h : Al lo w b s) : w.cell? ⟨b.nb, 22, none⟩ = some (.slice none 0 0) := Qu.Blk.cell h.blk 22 _ rfl
theorem Al.c23 {lo : Nat} {w : World} {b : PB} {s : AS} (h : Al lo w b s) : w.cell? ⟨b.nb, 23, none⟩ = some (b.rv) := Qu.Blk.cell h.blk 23 _ rfl
theorem Al.c24 {lo : Nat} {w : World} {b : PB} {s : AS} (h : Al lo w b s) : w.cell? ⟨b.nb, 24, none⟩ = some (.map b.pm) := Qu.Blk.cell h.blk 24 _ rfl
theorem Al.c25 {lo : Nat} {w : World} {b : PB} {s : AS} (h : Al lo w b s) : w.cell? ⟨b.nb, 25, none⟩ = some (.slice none 0 0) := Qu.Blk.cell h.blk 25 _ rfl
theorem Al.c26 {lo : Nat} {w : World} {b : PB} {s : AS} (h : Al lo w b s) : w.cell? ⟨b.nb, 26, none⟩ = some (.int .i64 0) := Qu.Blk.cell h.blk 26 _ rfl
theorem Al.free {lo : Nat} {w : World} {b : PB} {s : AS} (h : Al lo w b s) (i : Nat) : w.frozen? ⟨b.nb, i, none⟩ = false := Qu.Blk.free h.blk i
/-- its log's end -/
theorem Al.last {lo : Nat} {w : World} {b : PB} {s : AS} (h : Al lo w b s) (W : World) (hW : Below w.heap.size w W) : Calls Tryz.prog 22 #[.pointer (some ⟨b.g, 0, none⟩)] W fun e w' => e = .returned (.int .i64 s.g.last) ∧ ∃ m, w' = W.drewN m := by
  obtain ⟨A, cap, _, hl, _⟩ := (h.lg.below hW).slice
  exact hl.last_dr
theorem Al.term {lo : Nat} {w : World} {b : PB} {s : AS} (h : Al lo w b s) (i : Int) (W : World) (hW : Below w.heap.size w W) : Calls Tryz.prog 61 #[.pointer (some ⟨b.g, 0, none⟩), .int .i64 i] W fun e w' => e = .returned (.tuple #[.int .i64 (Rg.termV s.g i), .bool (Rg.termB s.g i)]) ∧ ∃ m, w' = W.drewN m := by
  obtain ⟨A, cap, _, hl, _⟩ := (h.lg.below hW).slice
  exact hl.term_dr i
theorem Al.com {lo : Nat} {w : World} {b : PB} {s : AS} (h : Al lo w b s) (W : World) (hW : Below w.heap.size w W) : Calls Tryz.prog 30 #[.pointer (some ⟨b.g, 0, none⟩)] W fun e w' => e = .returned (.int .i64 s.g.com) ∧ W = w' :=
  Rg.committed_any b.g _ _ _ _ _ W (h.lg.below hW).blk
/-- its group: itself alone -/
def grp1 (b : PB) : Value := .agg #[.slice b.SV 1 b.svc, .slice b.SL 0 b.slc]
theorem Al.group {lo : Nat} {w : World} {b : PB} {s : AS} (h : Al lo w b s) (W : World) (hW : Below w.heap.size w W) : Calls Tryz.prog 25 #[.pointer (some ⟨b.nb, 0, none⟩)] W fun e w' => e = .returned (grp1 b) ∧ Below W.heap.size W w' := by
  have hh := h.below hW
  exact group_any b.nb b.g s.g.last none 0 0 [] b.SV 1 b.svc b.SL 0 b.slc W (RdTn.nil _ _) (hh.c3) (hh.c6) (hh.c7) (hh.c9) (fun W' hW' => hh.last W' hW') (fun t ht => by simp at ht)
set_option maxRecDepth 100000 in
set_option maxHeartbeats 1000000 in
/-- it has no members -/
theorem Al.members {lo : Nat} {w : World} {b : PB} {s : AS} (h : Al lo w b s) (W : World) (hW : Below w.heap.size w W) : Calls Tryz.prog 68 #[.pointer (some ⟨b.nb, 0, none⟩)] W fun e w' => e = .returned (.slice none 0 0) ∧ Below W.heap.size W w' := by
  have hh := h.below hW
  have c24 := hh.c24
  have HPM := Lib.hid hh.pm
  clear h hW hh
  generalize b.pm = pm at *
  generalize b.nb = nb at *
  refine (callsIn_wide (n := 6)).1 ?_
  cases pm with
  | none =>
    have cK := Tryz.ksort_keys none W
    have cS := Tryz.ksort_nil W
    refine callsIn_of_wp Tryz.func68 rfl trivial ?_ rfl
    simp only [Tryz.ntmps68, List.size_toArray, List.length_cons, List.length_nil, Nat.reduceAdd, Nat.reduceSub, Array.replicate_succ, Array.replicate_zero, List.push_toArray, List.append_toArray, List.nil_append, List.cons_append]
    gi_wp2_with fail
    refine ⟨trivial, ?_⟩
    refine cK.mono ?_
    rintro e w' ⟨rfl, rfl⟩
    gi_wp2_with fail
    refine ⟨trivial, ?_⟩
    refine cS.mono ?_
    rintro e w' ⟨v, ss, rfl, rfl, hrow, hnil, hb⟩
    obtain rfl : v = .slice none 0 0 := hnil.2 rfl
    gi_wp2
    go_ret
    exact ⟨rfl, ((Below.refl _ W).alloc (Nat.le_refl _) _).trans (hb.mono (by simp))⟩
  | some m =>
    have hm := HPM.out m rfl
    have cK := Tryz.ksort_keys (some m) W
    have cS := Tryz.ksort_some m 0 _ noR W hm (by simp [Maps.size, maxLen]) (by simp [Maps.size])
    refine callsIn_of_wp Tryz.func68 rfl trivial ?_ rfl
    simp only [Tryz.ntmps68, List.size_toArray, List.length_cons, List.length_nil, Nat.reduceAdd, Nat.reduceSub, Array.replicate_succ, Array.replicate_zero, List.push_toArray, List.append_toArray, List.nil_append, List.cons_append]
    gi_wp2_with fail
    refine ⟨trivial, ?_⟩
    refine cK.mono ?_
    rintro e w' ⟨rfl, rfl⟩
    gi_wp2_with fail
    refine ⟨trivial, ?_⟩
    refine cS.mono ?_
    rintro e w' ⟨v, ss, rfl, hp, hrow, hnil, hb⟩
    obtain rfl : v = .slice none 0 0 := hnil.2 (List.Perm.eq_nil (by exact hp))
    gi_wp2
    go_ret
    exact ⟨rfl, ((Below.refl _ W).alloc (Nat.le_refl _) _).trans (hb.mono (by simp))⟩
end Go.Proofs.YtjadfpcipicckaaGreat.Rf

namespace Go.Proofs.YtjadfpcipicckaaGreat.Rf
open Go.RowKit Go.Shelf Go.Proofs.YtjadfpcipicckaaGreat.Fld
open Go.Proofs.YtjadfpcipicckaaGreat.Qu (RdI)
set_option linter.unusedVariables false

theorem field_v (A B : Option Addr) (n c m d : Nat) (W : World) : (Instr.field 26 (.agg #[.slice A n c, .slice B m d]) 0).run Tryz.prog W = .ok (.slice A n c) W := by kernel_rfl
theorem field_l (A B : Option Addr) (n c m d : Nat) (W : World) : (Instr.field 26 (.agg #[.slice A n c, .slice B m d]) 1).run Tryz.prog W = .ok (.slice B m d) W := by kernel_rfl
set_option maxHeartbeats 800000 in
theorem index0 (fv : Value) (w : World) : Calls Tryz.prog 82 #[.slice none 0 0, fv] w fun e w' => e = .returned (.int .i64 (-1)) ∧ w = w' := by
  go_enter Tryz.func82, Tryz.ntmps82
  go_wp2
  go_loopw [8] (fun i wr => i = .int .i64 0 ∧ w = wr) (fun _ _ => 0)
  case atStart => exact ⟨rfl, rfl⟩
  case round =>
    obtain ⟨rfl, rfl⟩ := hrel
    go_wp2
    go_ret
    exact ⟨rfl, rfl⟩
set_option maxHeartbeats 800000 in
theorem delete0 (fv : Value) (w : World) : Calls Tryz.prog 48 #[.slice none 0 0, fv] w fun e w' => e = .returned (.slice none 0 0) ∧ w = w' := by
  go_enter Tryz.func48, Tryz.ntmps48
  go_wp2_with fail
  refine (index0 fv _).mono ?_
  rintro e w' ⟨rfl, rfl⟩
  go_wp2
  go_ret
  exact ⟨rfl, rfl⟩
theorem rdl_two (W : World) (A B : Option Addr) (n1 n2 c1 c2 : Nat) (l1 l2 : List Int) (ty : TypeId) (h1 : RdI W A n1 l1) (h2 : RdI W B n2 l2) (e1 : A = none → c1 = 0) (e2 : B = none → c2 = 0) :
    Qu.RdL (W.alloc (.cells #[.slice A n1 c1, .slice B n2 c2] ty)) (some ⟨W.heap.size, 0, none⟩) 2 [l1, l2] := by
  have hb := Rg.alloc_below' W (.cells #[.slice A n1 c1, .slice B n2 c2] ty)
  have hk := Rg.Blk.new W #[.slice A n1 c1, .slice B n2 c2] ty
  refine ⟨rfl, by unfold maxLen; omega, fun _ => ⟨_, 0, rfl, fun i hi => ?_⟩⟩
  rcases i with _ | _ | i
  · exact ⟨A, n1, c1, hk.cell 0 _ rfl, h1.below hb, e1⟩
  · exact ⟨B, n2, c2, hk.cell 1 _ rfl, h2.below hb, e2⟩
  · omega
set_option maxRecDepth 100000 in
theorem mdel_any (m : Nat) (fv : Nat) (lb : Array Value) (w : World) (h : EmptyM w m) (eg : ∀ args w, (callFunc fv args).run Tryz.prog w = .ok (.enter fv args) w) :
    Calls Tryz.prog 89 #[.map (some m), .func (.func fv) #[] lb] w fun e w' => e = .returned (.tuple #[]) ∧ EmptyM w' m ∧ w.grownBy w' (some m) :=
  AnyDf.maps_DeleteFunc Tryz.mdelI (Maps.int_keyed Tryz.underlying3) noR (fun _ _ => false) fv lb m 0 (.map []) w eg h (fun W key val kl yd yp _ _ hv => by cases hv)
set_option maxRecDepth 100000 in
set_option maxHeartbeats 1600000 in
theorem meet_any {lo m : Nat} {w : World} {b : PB} {s : AS} (h : Al lo w b s) (hm : b.pm = some m) : Calls Tryz.prog 53 #[.pointer (some ⟨b.nb, 0, none⟩)] w fun e w' => e = .returned (.tuple #[]) ∧ Aft lo w w' b b s := by
  have HG := Lib.hid h.group
  have HS := Lib.hid h
  have HM := Lib.hid hm
  have HSV := Lib.hid (show b.SV = none → b.svc = 0 by intro e; have := h.sv.2.2 (by omega); obtain ⟨x, y, z, _⟩ := this; rw [e] at z; cases z)
  have HCC := Lib.hid (fun W (hW : Below w.heap.size w W) ty => Qu.concat_any (some ⟨W.heap.size, 0, none⟩) 2 2 [[s.e.id], []] _ (rdl_two W b.SV b.SL 1 0 b.svc b.slc [s.e.id] [] ty (h.sv.below hW) (Qu.RdI.nil _ _) HSV.out h.slz) (by omega) (by simp) (by simp))
  simp only [List.flatten_cons, List.flatten_nil, List.append_nil] at HCC
  unfold grp1 at HG
  have HC1 := Lib.hid h.c1
  have HC24 := Lib.hid h.c24
  rw [hm] at HC24
  clear h hm
  generalize hnb : b.nb = nb at *
  have HNB := Lib.hid hnb
  clear hnb
  generalize b.SV = SV at *
  generalize b.svc = svc at *
  generalize b.SL = SL at *
  generalize b.slc = slc at *
  generalize s.e.id = id at *
  have qv := fun W => field_v SV SL 1 svc 0 slc W
  have ql := fun W => field_l SV SL 1 svc 0 slc W
  go_enter Tryz.func53, Tryz.ntmps53
  go_wp2_with fail
  refine (HG.out w (Below.refl _ _)).mono ?_
  rintro e w1 ⟨rfl, hb1⟩
  have HB1 := Lib.hid hb1
  clear hb1
  go_wp2_with fail
  refine (HG.out w1 HB1.out).mono ?_
  rintro e w2 ⟨rfl, hb2⟩
  have HB2 := Lib.hid (HB1.out.trans (hb2.mono HB1.out.size))
  clear hb2
  go_wp2_with fail
  refine (HCC.out w2 HB2.out _).mono ?_
  rintro e w3 ⟨v, rfl, hO⟩
  obtain ⟨A, cap, hv, hrd, _, _, _, hbk⟩ := hO.form (by simp)
  rw [show [id].length = 1 from rfl] at hv hrd
  subst hv
  obtain ⟨bk, off, rfl, hcl⟩ := hrd.2.2 (by omega)
  have hc0 := hcl 0 (by omega)
  simp only [List.getD_cons_zero, Nat.add_zero] at hc0
  have HB3 := Lib.hid (HB2.out.trans (((Rg.alloc_below' w2 _).trans (hO.1.mono (by simp))).mono HB2.out.size))
  have hb4 := HB3.out.alloc HB3.out.size (.cells #[.slice (some ⟨bk, off, none⟩) 1 cap] 24)
  have HB4 := Lib.hid hb4
  have hc4 := ((Rg.alloc_below' w3 (.cells #[.slice (some ⟨bk, off, none⟩) 1 cap] 24)).cell (p := ⟨bk, off, none⟩) (lt_of_cell hc0)).trans hc0
  have HC4 := Lib.hid hc4
  clear hO hbk hcl hc0 hb4 hc4 hrd
  go_wp2
  go_loopw [15] (fun i wr => ∃ k : Nat, k ≤ 1 ∧ i = .int .i64 k ∧ wr = w3.alloc (.cells #[.slice (some ⟨bk, off, none⟩) 1 cap] 24)) (fun i _ => 1 - (intOf i).toNat)
  case atStart => exact ⟨0, by omega, rfl, rfl⟩
  case round =>
    obtain ⟨k, hk, rfl, rfl⟩ := hrel
    rcases k with _ | _ | k
    · have hc4 := HC4.out
      have c1 := (HB4.out.cell (p := ⟨nb, 1, none⟩) (lt_of_cell HC1.out)).trans HC1.out
      go_wp2
      go_roundw
      case rel => exact ⟨1, by omega, by go_num, by first | trivial | rfl⟩
      case measure => simp [intOf]
    · have c24 := (HB4.out.cell (p := ⟨nb, 24, none⟩) (lt_of_cell HC24.out)).trans HC24.out
      have hs4 := HS.out.below HB4.out
      have HMD := Lib.hid (mdel_any m 90 #[.pointer (some ⟨w3.heap.size, 0, none⟩)] _ (hs4.pm m HM.out) (enters_of Tryz.func90 (by kernel_rfl) rfl))
      clear hs4
      go_wp2_with fail
      refine HMD.out.mono ?_
      rintro e w5 ⟨rfl, he, hg⟩
      have HFIN := Lib.hid (Aft.past HS.out HB4.out ((HS.out.below HB4.out).mapped HM.out hg he))
      clear he hg
      go_wp2
      go_end0
      exact ⟨rfl, HFIN.out⟩
    · omega
end Go.Proofs.YtjadfpcipicckaaGreat.Rf
