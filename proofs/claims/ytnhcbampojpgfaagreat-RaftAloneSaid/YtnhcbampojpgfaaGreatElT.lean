/-
  Layer 10, in the program: Tick. Conditions: as each theorem states.
-/
import Derived.Test.YtnhcbampojpgfaaGreatElH
namespace Go.Proofs.YtnhcbampojpgfaaGreat.El
open Go.RowKit Go.Proofs.YtnhcbampojpgfaaGreat.Qu Go.Proofs.YtnhcbampojpgfaaGreat.Fld
set_option linter.unusedVariables false

set_option maxRecDepth 100000 in
set_option maxHeartbeats 3200000 in
theorem tick_any (p : Pl) (s : St) (draw last lt : Int) (w : World) (h : Im w p s) (hwt : s.wait ≤ 1000000000) : Calls Tryz.prog 51 #[.pointer (some ⟨p.g, 0, none⟩), .int .i64 draw, .int .i64 last, .int .i64 lt] w fun e w' => ∃ v, e = .returned v ∧ Ans w w' p (tick s draw last lt).1 v (tick s draw last lt).2 := by
  obtain ⟨_, _, _, _, _, _, c6, _, c8, _, _⟩ := h.blk.cells
  have hw0 := h.ok.w0
  have hlm := h.ok.lm
  have hp := h.ok.pat1
  by_cases hr : s.role = 3
  · have q1 : (s.role == 3) = true := by simp [hr]
    have HD := Lib.hid (Did.same h (Below.refl _ _))
    have HR := Lib.hid (show tick s draw last lt = (s, []) by unfold tick; rw [if_pos hr])
    clear h hr
    go_enter Tryz.func51, Tryz.ntmps51
    go_wp2
    go_ret
    exact ⟨_, rfl, by rw [HR.out]; exact Ans.emp HD.out⟩
  have q1 : (s.role == 3) = false := by simpa using hr
  have h1 := h.set 8 (.int .i64 (s.wait + 1)) (s' := { s with wait := s.wait + 1 }) rfl (by omega) rfl rfl rfl ⟨h.ok.id1, h.ok.hard, h.ok.grp, h.ok.pat1, by show 0 ≤ s.wait + 1; omega, h.ok.lm, h.ok.role, h.ok.lead, h.ok.am⟩
  have f8 := Blk.free h.blk 8
  obtain ⟨e0, e1, _, _, e4, _, _, _, e8, e9, _⟩ := h1.im.blk.cells
  have k8 := Blk.free h1.im.blk 8
  by_cases hl : s.wait + 1 < s.lim
  · have d1 : decide (s.wait + 1 < s.lim) = true := decide_eq_true hl
    have HD := Lib.hid h1
    have HR := Lib.hid (show tick s draw last lt = ({ s with wait := s.wait + 1 }, []) by unfold tick; rw [if_neg hr, if_pos (.inl hl)])
    clear h hr h1 hl
    go_enter Tryz.func51, Tryz.ntmps51
    go_wp2_with fail
    go_quiet (fail)
    all_goals
      go_wp2
      go_ret
      exact ⟨_, rfl, by rw [HR.out]; exact Ans.emp (HD.out.to (below_dr _ _))⟩
  have d1 : decide (s.wait + 1 < s.lim) = false := decide_eq_false hl
  have HV := Lib.hid (fun W (hv : RdI W p.VA s.vs.length s.vs) => containsI_any p.VA s.vs.length p.vc s.vs s.id W hv)
  have HRV := Lib.hid h1.im.vs
  cases hb : hasI s.vs s.id with
  | false =>
    rw [hb] at HV
    have HD := Lib.hid (h1.to (below_d1 _))
    have HR := Lib.hid (show tick s draw last lt = ({ s with wait := s.wait + 1 }, []) by unfold tick; rw [if_neg hr, if_pos (.inr hb)])
    clear h hr h1 hl
    go_enter Tryz.func51, Tryz.ntmps51
    go_wp2_with fail
    go_region_held3 (fun w' => w'.cell? ⟨p.g, 8, none⟩ = some (.int .i64 (s.wait + 1)) ∧ w'.cell? ⟨p.g, 9, none⟩ = some (.int .i64 s.lim) ∧ w'.cell? ⟨p.g, 4, none⟩ = some (.slice p.VA s.vs.length p.vc) ∧ w'.cell? ⟨p.g, 0, none⟩ = some (.int .i64 s.id)) (first | exact ⟨by assumption, by assumption, by assumption, by assumption⟩ | go_keep) (first | (go_at_call 112; refine (HV.out _ (by exact HRV.out)).mono ?_; rintro e w' ⟨rfl, rfl⟩))
    all_goals
      go_wp2
      go_ret
      exact ⟨_, rfl, by rw [HR.out]; exact Ans.emp HD.out⟩
  | true =>
    rw [hb] at HV
    have h2 := h1.im.set 8 (.int .i64 0) (s' := { s with wait := 0 }) rfl (by omega) rfl rfl rfl ⟨h.ok.id1, h.ok.hard, h.ok.grp, h.ok.pat1, Int.le_refl _, h.ok.lm, h.ok.role, h.ok.lead, h.ok.am⟩
    have hd := draw_in draw s.pat hp
    obtain ⟨z, hz⟩ : ∃ z, (max draw 0).tmod s.pat = z := ⟨_, rfl⟩
    rw [hz] at hd
    have h3 := (h2.im.set 9 (.int .i64 (s.pat + z)) (s' := { s with wait := 0, lim := s.pat + z }) rfl (by omega) rfl rfl rfl ⟨h.ok.id1, h.ok.hard, h.ok.grp, h.ok.pat1, Int.le_refl _, by show 1 ≤ s.pat + z ∧ s.pat + z ≤ 2000; omega, h.ok.role, h.ok.lead, h.ok.am⟩).to (show Below _ _ (World.drew (World.drew _)) from (below_d1 _).drew)
    have HD := Lib.hid ((h1.then h2).then h3)
    have HR := Lib.hid (show tick s draw last lt = hope { s with wait := 0, lim := s.pat + z } last lt by unfold tick; rw [if_neg hr, if_neg (by rintro (h0 | h0); exact hl h0; rw [hb] at h0; cases h0), hz])
    have HH := Lib.hid (hope_any p _ last lt _ h3.im)
    unfold entV at HH
    obtain ⟨_, g1, _, _, _, _, _, _, _, g9, _⟩ := h2.im.blk.cells
    have f9 := Blk.free h2.im.blk 9
    have j1 : IntKind.i64.wrap (s.pat + z) = s.pat + z := IntWalk.i64_in _ (by omega)
    by_cases hdr : draw < 0
    · have j2 : max draw 0 = 0 := by omega
      rw [j2] at hz
      have q3 : decide (draw < 0) = true := decide_eq_true hdr
      clear h hr h1 h2 h3 hl j2
      go_enter Tryz.func51, Tryz.ntmps51
      go_wp2_with fail
      go_region_held3 (fun w' => w'.cell? ⟨p.g, 8, none⟩ = some (.int .i64 (s.wait + 1)) ∧ w'.cell? ⟨p.g, 9, none⟩ = some (.int .i64 s.lim) ∧ w'.cell? ⟨p.g, 4, none⟩ = some (.slice p.VA s.vs.length p.vc) ∧ w'.cell? ⟨p.g, 0, none⟩ = some (.int .i64 s.id)) (first | exact ⟨by assumption, by assumption, by assumption, by assumption⟩ | go_keep) (first | (go_at_call 112; refine (HV.out _ (by exact HRV.out)).mono ?_; rintro e w' ⟨rfl, rfl⟩))
      all_goals
        go_wp2_with fail
        go_region
        go_wp2_with fail
        refine HH.out.mono ?_
        rintro e w3 ⟨v3, rfl, hA⟩
        have HA := Lib.hid hA
        clear hA
        go_wp2
        go_ret
        exact ⟨_, rfl, by rw [HR.out]; exact Ans.then HD.out HA.out⟩
    · have j2 : max draw 0 = draw := by omega
      rw [j2] at hz
      have q3 : decide (draw < 0) = false := decide_eq_false hdr
      clear h hr h1 h2 h3 hl j2
      go_enter Tryz.func51, Tryz.ntmps51
      go_wp2_with fail
      go_region_held3 (fun w' => w'.cell? ⟨p.g, 8, none⟩ = some (.int .i64 (s.wait + 1)) ∧ w'.cell? ⟨p.g, 9, none⟩ = some (.int .i64 s.lim) ∧ w'.cell? ⟨p.g, 4, none⟩ = some (.slice p.VA s.vs.length p.vc) ∧ w'.cell? ⟨p.g, 0, none⟩ = some (.int .i64 s.id)) (first | exact ⟨by assumption, by assumption, by assumption, by assumption⟩ | go_keep) (first | (go_at_call 112; refine (HV.out _ (by exact HRV.out)).mono ?_; rintro e w' ⟨rfl, rfl⟩))
      all_goals
        go_wp2_with fail
        go_region
        go_wp2_with fail
        refine HH.out.mono ?_
        rintro e w3 ⟨v3, rfl, hA⟩
        have HA := Lib.hid hA
        clear hA
        go_wp2
        go_ret
        exact ⟨_, rfl, by rw [HR.out]; exact Ans.then HD.out HA.out⟩
end Go.Proofs.YtnhcbampojpgfaaGreat.El
