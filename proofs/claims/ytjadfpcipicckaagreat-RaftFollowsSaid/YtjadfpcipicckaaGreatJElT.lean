/-
  Several texts in one: Layer 10, in the program: Tick. Conditions: as each theorem states. Layer 10, in the program: slices.Clone, copied, Hard, Role, Leader, Heard. Conditions: as each theorem states.
-/
import Derived.Test.YtjadfpcipicckaaGreatJElE
import Derived.Lib.LazyBuf
namespace Go.Proofs.YtjadfpcipicckaaGreat.El
open Go.RowKit Go.Proofs.YtjadfpcipicckaaGreat.Qu Go.Proofs.YtjadfpcipicckaaGreat.Fld
set_option linter.unusedVariables false

set_option maxRecDepth 100000 in
set_option maxHeartbeats 3200000 in
theorem tick_any (p : Pl) (s : St) (draw last lt : Int) (w : World) (h : Im w p s) (hwt : s.wait ≤ 1000000000) : Calls Tryz.prog 35 #[.pointer (some ⟨p.g, 0, none⟩), .int .i64 draw, .int .i64 last, .int .i64 lt] w fun e w' => ∃ v, e = .returned v ∧ Ans w w' p (tick s draw last lt).1 v (tick s draw last lt).2 := by
  obtain ⟨_, _, _, _, _, _, c6, _, c8, _, _⟩ := h.blk.cells
  have hw0 := h.ok.w0
  have hlm := h.ok.lm
  have hp := h.ok.pat1
  by_cases hr : s.role = 3
  · have q1 : (s.role == 3) = true := by simp [hr]
    have HD := Lib.hid (Did.same h (Below.refl _ _))
    have HR := Lib.hid (show tick s draw last lt = (s, []) by unfold tick; rw [if_pos hr])
    clear h hr
    go_enter Tryz.func35, Tryz.ntmps35
    go_wp2
    go_ret
    exact ⟨_, rfl, by rw [HR.out]; exact Ans.emp HD.out⟩
  have q1 : (s.role == 3) = false := by simpa using hr
  have h1 := h.set 8 (.int .i64 (s.wait + 1)) (s' := { s with wait := s.wait + 1 }) rfl (by omega) rfl rfl rfl ⟨h.ok.id1, h.ok.hard, h.ok.grp, h.ok.pat1, by show 0 ≤ s.wait + 1; omega, h.ok.lm, h.ok.role, h.ok.lead, h.ok.am⟩
  have f8 := Blk.free h.blk 8
  obtain ⟨e0, e1, _, _, e4, _, _, _, e8, e9, _⟩ := h1.im.blk.cells
  have k8 := Blk.free h1.im.blk 8
  by_cases hl : s.wait + 1 < s.lim
  · have d1 : decide (s.wait + 1 < s.lim) = true := decide_eq_true hl
    have HD := Lib.hid h1
    have HR := Lib.hid (show tick s draw last lt = ({ s with wait := s.wait + 1 }, []) by unfold tick; rw [if_neg hr, if_pos (.inl hl)])
    clear h hr h1 hl
    go_enter Tryz.func35, Tryz.ntmps35
    go_wp2_with fail
    go_quiet (fail)
    all_goals
      go_wp2
      go_ret
      exact ⟨_, rfl, by rw [HR.out]; exact Ans.emp (HD.out.to (below_dr _ _))⟩
  have d1 : decide (s.wait + 1 < s.lim) = false := decide_eq_false hl
  have HV := Lib.hid (fun W (hv : RdI W p.VA s.vs.length s.vs) => containsI_any p.VA s.vs.length p.vc s.vs s.id W hv)
  have HRV := Lib.hid h1.im.vs
  cases hb : hasI s.vs s.id with
  | false =>
    rw [hb] at HV
    have HD := Lib.hid (h1.to (below_d1 _))
    have HR := Lib.hid (show tick s draw last lt = ({ s with wait := s.wait + 1 }, []) by unfold tick; rw [if_neg hr, if_pos (.inr hb)])
    clear h hr h1 hl
    go_enter Tryz.func35, Tryz.ntmps35
    go_wp2_with fail
    go_region_held3 (fun w' => w'.cell? ⟨p.g, 8, none⟩ = some (.int .i64 (s.wait + 1)) ∧ w'.cell? ⟨p.g, 9, none⟩ = some (.int .i64 s.lim) ∧ w'.cell? ⟨p.g, 4, none⟩ = some (.slice p.VA s.vs.length p.vc) ∧ w'.cell? ⟨p.g, 0, none⟩ = some (.int .i64 s.id)) (first | exact ⟨by assumption, by assumption, by assumption, by assumption⟩ | go_keep) (first | (go_at_call 75; refine (HV.out _ (by exact HRV.out)).mono ?_; rintro e w' ⟨rfl, rfl⟩))
    all_goals
      go_wp2
      go_ret
      exact ⟨_, rfl, by rw [HR.out]; exact Ans.emp HD.out⟩
  | true =>
    rw [hb] at HV
    have h2 := h1.im.set 8 (.int .i64 0) (s' := { s with wait := 0 }) rfl (by omega) rfl rfl rfl ⟨h.ok.id1, h.ok.hard, h.ok.grp, h.ok.pat1, Int.le_refl _, h.ok.lm, h.ok.role, h.ok.lead, h.ok.am⟩
    have hd := draw_in draw s.pat hp
    obtain ⟨z, hz⟩ : ∃ z, (max draw 0).tmod s.pat = z := ⟨_, rfl⟩
    rw [hz] at hd
    have h3 := (h2.im.set 9 (.int .i64 (s.pat + z)) (s' := { s with wait := 0, lim := s.pat + z }) rfl (by omega) rfl rfl rfl ⟨h.ok.id1, h.ok.hard, h.ok.grp, h.ok.pat1, Int.le_refl _, by show 1 ≤ s.pat + z ∧ s.pat + z ≤ 2000; omega, h.ok.role, h.ok.lead, h.ok.am⟩).to (show Below _ _ (World.drew (World.drew _)) from (below_d1 _).drew)
    have HD := Lib.hid ((h1.then h2).then h3)
    have HR := Lib.hid (show tick s draw last lt = hope { s with wait := 0, lim := s.pat + z } last lt by unfold tick; rw [if_neg hr, if_neg (by rintro (h0 | h0); exact hl h0; rw [hb] at h0; cases h0), hz])
    have HH := Lib.hid (hope_any p _ last lt _ h3.im)
    unfold entV at HH
    obtain ⟨_, g1, _, _, _, _, _, _, _, g9, _⟩ := h2.im.blk.cells
    have f9 := Blk.free h2.im.blk 9
    have j1 : IntKind.i64.wrap (s.pat + z) = s.pat + z := IntWalk.i64_in _ (by omega)
    have K9 := Lib.hid (show wrap64 (s.pat + max draw 0 % s.pat) = s.pat + z by
      have e0 : max draw 0 % s.pat = z := by rw [← hz]; exact (Int.tmod_eq_emod_of_nonneg (by omega)).symm
      rw [e0]; unfold wrap64; omega)
    by_cases hdr : draw < 0
    · have j2 : max draw 0 = 0 := by omega
      rw [j2] at hz
      have q3 : decide (draw < 0) = true := decide_eq_true hdr
      clear h hr h1 h2 h3 hl j2
      go_enter Tryz.func35, Tryz.ntmps35
      go_wp2_with fail
      go_region_held3 (fun w' => w'.cell? ⟨p.g, 8, none⟩ = some (.int .i64 (s.wait + 1)) ∧ w'.cell? ⟨p.g, 9, none⟩ = some (.int .i64 s.lim) ∧ w'.cell? ⟨p.g, 4, none⟩ = some (.slice p.VA s.vs.length p.vc) ∧ w'.cell? ⟨p.g, 0, none⟩ = some (.int .i64 s.id)) (first | exact ⟨by assumption, by assumption, by assumption, by assumption⟩ | go_keep) (first | (go_at_call 75; refine (HV.out _ (by exact HRV.out)).mono ?_; rintro e w' ⟨rfl, rfl⟩))
      all_goals
        go_wp2_with fail
        go_region
        go_wp2_with fail
        first | refine HH.out.mono ?_ | (rw [K9.out]; refine HH.out.mono ?_)
        rintro e w3 ⟨v3, rfl, hA⟩
        have HA := Lib.hid hA
        clear hA
        go_wp2
        go_ret
        exact ⟨_, rfl, by rw [HR.out]; exact Ans.then HD.out HA.out⟩
    · have j2 : max draw 0 = draw := by omega
      rw [j2] at hz
      have q3 : decide (draw < 0) = false := decide_eq_false hdr
      clear h hr h1 h2 h3 hl j2
      go_enter Tryz.func35, Tryz.ntmps35
      go_wp2_with fail
      go_region_held3 (fun w' => w'.cell? ⟨p.g, 8, none⟩ = some (.int .i64 (s.wait + 1)) ∧ w'.cell? ⟨p.g, 9, none⟩ = some (.int .i64 s.lim) ∧ w'.cell? ⟨p.g, 4, none⟩ = some (.slice p.VA s.vs.length p.vc) ∧ w'.cell? ⟨p.g, 0, none⟩ = some (.int .i64 s.id)) (first | exact ⟨by assumption, by assumption, by assumption, by assumption⟩ | go_keep) (first | (go_at_call 75; refine (HV.out _ (by exact HRV.out)).mono ?_; rintro e w' ⟨rfl, rfl⟩))
      all_goals
        go_wp2_with fail
        go_region
        go_wp2_with fail
        first | refine HH.out.mono ?_ | (rw [K9.out]; refine HH.out.mono ?_)
        rintro e w3 ⟨v3, rfl, hA⟩
        have HA := Lib.hid hA
        clear hA
        go_wp2
        go_ret
        exact ⟨_, rfl, by rw [HR.out]; exact Ans.then HD.out HA.out⟩
end Go.Proofs.YtjadfpcipicckaaGreat.El

namespace Go.Proofs.YtjadfpcipicckaaGreat.El
open Go.RowKit Go.Proofs.YtjadfpcipicckaaGreat.Qu Go.Proofs.YtjadfpcipicckaaGreat.Fld
set_option linter.unusedVariables false

theorem ownI_made (w : World) : OwnI w (w.alloc (.cells #[] 3)) (.slice (some ⟨w.heap.size, 0, none⟩) 0 0) [] :=
  ⟨alloc_below w _, by simp [vI], .inr ⟨w.heap.size, 0, #[], rfl, Nat.le_refl _, heap_alloc_new w _, Nat.le_refl _, by unfold maxLen; omega, rfl, rfl⟩⟩
theorem cloneI_any (A : Option Addr) (n cap : Nat) (l : List Int) (w : World) (hr : RdI w A n l) (hn : n ≤ 1000) : Calls Tryz.prog 80 #[.slice A n cap] w fun e w' => ∃ v, e = .returned v ∧ OwnI w w' v l := by
  have q := fun (w : World) (a : Option Addr) (l c : Nat) => run_eql_slice_nil (P := Tryz.prog) w 24 3 a l c Tryz.underlying24
  cases A with
  | none =>
    obtain ⟨rfl, rfl⟩ := hr.empty
    clear hr
    go_enter Tryz.func80, Tryz.ntmps80
    go_wp2
    go_ret
    exact ⟨_, rfl, OwnI.nil _ _ (Below.refl _ _)⟩
  | some a =>
    have HO := Lib.hid (ownI_made w)
    have HR1 := Lib.hid (hr.below HO.out.1)
    clear hr
    go_enter Tryz.func80, Tryz.ntmps80
    go_wp2_with (at_builtin; refine wpList_append_ints rfl _ _ rfl w _ [] rfl HO.out (some a) n cap l rfl (fun h => by cases h) HR1.out (by simp; omega) ?_; intro v1 w1 hO1 _; have HO2 := Lib.hid hO1; clear hO1)
    go_ret
    exact ⟨_, rfl, HO2.out⟩
/-- a group that shares no memory -/
def CpIs (w : World) (vs ls : List Int) (e : Ending) (w' : World) : Prop := ∃ A1 c1 A2 c2, e = .returned (grpV A1 vs.length c1 A2 ls.length c2) ∧ RdI w' A1 vs.length vs ∧ RdI w' A2 ls.length ls ∧ (∀ a, A1 = some a → w.heap.size ≤ a.block ∧ a.block < w'.heap.size) ∧ (∀ a, A2 = some a → w.heap.size ≤ a.block ∧ a.block < w'.heap.size) ∧ Below w.heap.size w w'
theorem ownI_lt {w0 w : World} {A : Option Addr} {n c : Nat} {l : List Int} (h : OwnI w0 w (.slice A n c) l) : ∀ a, A = some a → w0.heap.size ≤ a.block ∧ a.block < w.heap.size := by
  intro a ha
  rcases h.2.2 with ⟨h1, _⟩ | ⟨g, cap, cur, h1, hg, hh, _⟩
  · cases h1; cases ha
  · cases h1
    cases ha
    exact ⟨hg, (Array.getElem?_eq_some_iff.1 hh).1⟩
set_option maxRecDepth 100000 in
set_option maxHeartbeats 3200000 in
theorem copied_any (VA : Option Addr) (vc : Nat) (vs : List Int) (LA : Option Addr) (lc : Nat) (ls : List Int) (w : World) (hv : RdI w VA vs.length vs) (hl : RdI w LA ls.length ls) (h1 : vs.length ≤ 1000) (h2 : ls.length ≤ 1000) :
    Calls Tryz.prog 40 #[grpV VA vs.length vc LA ls.length lc] w (CpIs w vs ls) := by
  have hb0 : Below w.heap.size w ((w.alloc (.cells #[.slice VA vs.length vc, .slice LA ls.length lc] 26)).alloc (.cells #[.slice none 0 0, .slice none 0 0] 26)) := (alloc_below w _).trans ((alloc_below (w.alloc (.cells #[.slice VA vs.length vc, .slice LA ls.length lc] 26)) _).mono (alloc_below w _).size)
  have hk1 := (Blk.new w #[.slice VA vs.length vc, .slice LA ls.length lc] 26).past (.cells #[.slice none 0 0, .slice none 0 0] 26)
  have hk2 := Blk.new (w.alloc (.cells #[.slice VA vs.length vc, .slice LA ls.length lc] 26)) #[.slice none 0 0, .slice none 0 0] 26
  rw [show (w.alloc (.cells #[.slice VA vs.length vc, .slice LA ls.length lc] 26)).heap.size = w.heap.size + 1 by simp] at hk2
  have HB0 := Lib.hid hb0
  have HK1 := Lib.hid hk1
  have HK2 := Lib.hid hk2
  have c0 := hk1.cell 0 (.slice VA vs.length vc) rfl
  have c1 := hk1.cell 1 (.slice LA ls.length lc) rfl
  have z0 := hk2.cell 0 (.slice none 0 0) rfl
  have z1 := hk2.cell 1 (.slice none 0 0) rfl
  have HV := Lib.hid (fun W (hW : Below w.heap.size w W) => cloneI_any VA vs.length vc vs W (hv.below hW) h1)
  have HL := Lib.hid (fun W (hW : Below w.heap.size w W) => cloneI_any LA ls.length lc ls W (hl.below hW) h2)
  have HN1 := Lib.hid (show vs.length ≤ 1000000 by omega)
  have HN2 := Lib.hid (show ls.length ≤ 1000000 by omega)
  unfold grpV CpIs
  generalize hwb : (w.alloc (.cells #[.slice VA vs.length vc, .slice LA ls.length lc] 26)).alloc (.cells #[.slice none 0 0, .slice none 0 0] 26) = wb at *
  have HDW := Lib.hid (below_d1 wb)
  subst hwb
  clear hb0 hk1 hk2 hv hl
  go_enter Tryz.func40, Tryz.ntmps40
  go_wp2_with fail
  go_region_held3 (fun w' => w'.cell? ⟨w.heap.size, 0, none⟩ = some (.slice VA vs.length vc) ∧ w'.cell? ⟨w.heap.size, 1, none⟩ = some (.slice LA ls.length lc)) (first | exact ⟨by assumption, by assumption⟩ | go_keep) (first
    | (go_at_call 80; have _ := HO1; refine (HL.out _ (by first | exact HB1.out)).mono ?_; rintro e w2 ⟨v2, rfl, hO2⟩; obtain ⟨A2, k2, rfl, hr2, _⟩ := hO2.form (by exact HN2.out); have HO2 := Lib.hid hO2; have HR2 := Lib.hid hr2; have HBB2 := Lib.hid (HBB1.out.trans (hO2.1.mono HBB1.out.size)); have d0 := (HK1.out.below HBB2.out).cell 0 _ rfl; have d1 := (HK1.out.below HBB2.out).cell 1 _ rfl; have y0 := (HK2.out.below HBB2.out).cell 0 _ rfl; have y1 := (HK2.out.below HBB2.out).cell 1 _ rfl; have f0 := Blk.free (HK2.out.below HBB2.out) 0; have f1 := Blk.free (HK2.out.below HBB2.out) 1; clear hO2 hr2)
    | (go_at_call 80; refine (HV.out _ (by exact HB0.out.drew)).mono ?_; rintro e w1 ⟨v1, rfl, hO1⟩; obtain ⟨A1, k1, rfl, hr1, _⟩ := hO1.form (by exact HN1.out); have HO1 := Lib.hid hO1; have HR1 := Lib.hid hr1; have HBB1 := Lib.hid (HDW.out.trans hO1.1); have HB1 := Lib.hid (HB0.out.trans (HBB1.out.mono HB0.out.size)); have c0 := (HK1.out.below HBB1.out).cell 0 _ rfl; have c1 := (HK1.out.below HBB1.out).cell 1 _ rfl; clear hO1 hr1))
  all_goals
    go_wp2
    have hK := HK2.out.below HBB2.out
    have hG := heap_setCell_same _ (w.heap.size + 1) 1 _ _ (.slice A2 ls.length k2) (heap_setCell_same w2 (w.heap.size + 1) 0 _ _ (.slice A1 vs.length k1) hK)
    refine bodyPost_ret (results_cell_row rfl _ _ (w.heap.size + 1) _ #[.slice A1 vs.length k1, .slice A2 ls.length k2] (0, 0) _ rfl hG Tryz.underlying26 rfl (by kernel_rfl)) rfl ?_
    have hf : Dk.Fr [w.heap.size + 1] w2 ((w2.setCell ⟨w.heap.size + 1, 0, none⟩ (.slice A1 vs.length k1)).setCell ⟨w.heap.size + 1, 1, none⟩ (.slice A2 ls.length k2)) := ((Dk.Fr.refl _ _).setCell _ (.inl (by simp)) _).setCell _ (.inl (by simp)) _
    have hs0 : ((w.alloc (.cells #[.slice VA vs.length vc, .slice LA ls.length lc] 26)).alloc (.cells #[.slice none 0 0, .slice none 0 0] 26)).drew.heap.size = w.heap.size + 2 := by show ((w.alloc (.cells #[.slice VA vs.length vc, .slice LA ls.length lc] 26)).alloc (.cells #[.slice none 0 0, .slice none 0 0] 26)).heap.size = _; simp
    have ho1 := ownI_lt HO1.out
    have ho2 := ownI_lt HO2.out
    have hs1 := HO1.out.1.size
    have hs2 := HO2.out.1.size
    have hs3 := hf.size
    refine ⟨A1, k1, A2, k2, rfl, rdI_fr (HR1.out.below HO2.out.1) hf ?_, rdI_fr HR2.out hf ?_, ?_, ?_, Dk.Fr.to_below (HB0.out.trans (HBB2.out.mono HB0.out.size)) hf (by intro i hi; simp at hi; omega)⟩
    · intro a ha hm
      have := ho1 a ha
      simp at hm
      omega
    · intro a ha hm
      have := ho2 a ha
      simp at hm
      omega
    · intro a ha
      have := ho1 a ha
      omega
    · intro a ha
      have := ho2 a ha
      omega
theorem role_any (p : Pl) (s : St) (w : World) (h : Im w p s) : Calls Tryz.prog 13 #[.pointer (some ⟨p.g, 0, none⟩)] w fun e w' => e = .returned (.int .i64 s.role) ∧ w = w' := by
  have c6 := h.blk.cells.2.2.2.2.2.2.1
  clear h
  go_enter Tryz.func13, Tryz.ntmps13
  go_wp2
  go_ret
  exact ⟨rfl, rfl⟩
theorem hard_any (p : Pl) (s : St) (w : World) (h : Im w p s) : Calls Tryz.prog 31 #[.pointer (some ⟨p.g, 0, none⟩)] w fun e w' => e = .returned (.agg #[.int .i64 s.term, .int .i64 s.vote]) ∧ Below w.heap.size w w' := by
  have hal := alloc_below w (.cells #[.int .i64 0, .int .i64 0] 23)
  have hi := h.below hal
  have c2 := hi.blk.cells.2.2.1
  have c3 := hi.blk.cells.2.2.2.1
  have HK := Lib.hid (Blk.new w #[.int .i64 s.term, .int .i64 s.vote] 23)
  have HB := Lib.hid (alloc_below w (.cells #[.int .i64 s.term, .int .i64 s.vote] 23))
  clear h hal hi
  go_enter Tryz.func31, Tryz.ntmps31
  go_wp2
  refine bodyPost_ret (results_cell_row rfl _ _ w.heap.size _ #[.int .i64 s.term, .int .i64 s.vote] (0, 0) _ rfl HK.out Tryz.underlying23 rfl (by kernel_rfl)) rfl ?_
  exact ⟨rfl, HB.out⟩
end Go.Proofs.YtjadfpcipicckaaGreat.El
