/-
  Layer 10, the document's own: run, Tick. Conditions: as each theorem states.
-/
import Derived.Test.YtjajgjpkiofhmaaElR1
import Derived.Test.YtjajgjpkiofhmaaElH
import Derived.Deep.CutRange
namespace Go.Proofs.Ytjajgjpkiofhmaa.El
open Go.RowKit Go.Proofs.Ytjajgjpkiofhmaa.Qu Go.Proofs.Ytjajgjpkiofhmaa.Fld
set_option linter.unusedVariables false

/-- what a call leaves of the document's node, and the ballots that it answers, in new memory -/
structure RA (lo N : Nat) (w w' : World) (q q' : Ql) (s' : St) (v : Value) (out : List Bal) : Prop where
  did : RD lo N w w' q q' s'
  out : w'.ownsRow w.heap.size 40 7 v out.length (rowB out)
  g : q'.g = q.g
theorem RA.emp {lo N : Nat} {w w' : World} {q q' : Ql} {s' : St} (h : RD lo N w w' q q' s') (g : q'.g = q.g) : RA lo N w w' q q' s' (.slice none 0 0) [] := ⟨h, row_nil _ _ _ _, g⟩
theorem RA.after {lo N : Nat} {w w1 w' : World} {q q' : Ql} {s1 : St} {v : Value} {out : List Bal} (h : RD lo N w w1 q q' s1) (g : q'.g = q.g) (k : OwnB w1 w' v out) : RA lo N w w' q q' s1 v out := ⟨h.to k.1, row_lower k.2 h.fr.size, g⟩
theorem RA.then {lo N N' : Nat} {w w1 w' : World} {q q1 q' : Ql} {s1 s' : St} {v : Value} {out : List Bal} (h : RD lo N w w1 q q1 s1) (g : q1.g = q.g) (k : RA lo N' w1 w' q1 q' s' v out) : RA lo N' w w' q q' s' v out := ⟨h.then k.did, row_lower k.out h.fr.size, k.g.trans g⟩
theorem RA.mono {lo N N' : Nat} {w w' : World} {q q' : Ql} {s' : St} {v : Value} {out : List Bal} (h : RA lo N w w' q q' s' v out) (hn : N ≤ N') : RA lo N' w w' q q' s' v out := ⟨⟨h.did.rm.mono hn, h.did.fr, h.did.ft⟩, h.out, h.g⟩
set_option maxRecDepth 100000 in
set_option maxHeartbeats 3200000 in
theorem rrun_any {lo N : Nat} (q : Ql) (s : St) (last lt : Int) (w : World) (h : Rm lo N w q s) (hN : 1 ≤ N) : Calls Try.prog 38 #[.pointer (some ⟨q.g, 0, none⟩), .int .i64 last, .int .i64 lt] w fun e w' => ∃ v q', e = .returned v ∧ RA lo N w w' q q' (run s last lt).1 v (run s last lt).2 := by
  have hok := h.rb.ok
  have hh := (okHard_iff _ _).1 hok.hard
  have ht1 := hh.1.1
  have ht2 : s.term ≤ 1099511627776 := hh.1.2
  obtain ⟨c0, c1, c2, _, _, _, c6, _, _, _, _, _⟩ := h.rb.cells
  by_cases hm : s.term = MX
  · have hm' : s.term = 1099511627776 := hm
    have q1 : decide (1099511627776 ≤ s.term) = true := by simp; omega
    have h1 := h.rb.set 6 (.int .i64 0) (s' := { s with role := 0 }) rfl (by omega) rfl rfl (role_ok hok (by omega))
    have HD := Lib.hid (h1.rd h.hy h.hn)
    have f6 := Blk.free h.rb.blk 6
    have HR := Lib.hid (show run s last lt = ({ s with role := 0 }, []) by unfold run; rw [if_pos hm])
    clear h h1 hh hm hm'
    go_enter Try.func38, Try.ntmps38
    go_wp2
    go_ret
    exact ⟨_, q, rfl, by rw [HR.out]; exact RA.emp HD.out rfl⟩
  have hm' : ¬ s.term = 1099511627776 := hm
  have q1 : decide (1099511627776 ≤ s.term) = false := by simp; omega
  have j1 : IntKind.i64.wrap (s.term + 1) = s.term + 1 := IntWalk.i64_in _ (by omega)
  obtain ⟨o1, o2⟩ := term_ok hok hm
  have h2 := h.rb.set 1 (.int .i64 (s.term + 1)) (s' := { s with term := s.term + 1 }) rfl (by omega) rfl rfl o1
  have h3 := (h2.rb.set 2 (.int .i64 s.id) (s' := { s with term := s.term + 1, vote := s.id }) rfl (by omega) rfl rfl o2).to (below_d1 _)
  have h4 := h3.rb.set 6 (.int .i64 2) (s' := { s with term := s.term + 1, vote := s.id, role := 2 }) rfl (by omega) rfl rfl (role_ok o2 (by omega))
  have f1 := Blk.free h.rb.blk 1
  have f2 := Blk.free h.rb.blk 2
  have f6 := Blk.free h3.rb.blk 6
  have e6 := h3.rb.cells.2.2.2.2.2.2.1
  have HD4 := Lib.hid ((h2.then h3).then h4)
  have HOK := Lib.hid (stood_ok hok hm)
  have HR := Lib.hid (show run s last lt = if wonA s.vs (onlyA s.id) then (leadS (stood s), []) else (stood s, askAll (stood s) 3 (s.term + 1) last lt) by unfold run; rw [if_neg hm]; rfl)
  have HWA := Lib.hid (fun (W : World) (qq : Ql) (hW : Rm lo N W qq (stood s)) => hW.wins)
  clear h hok hh hm hm' o1 o2 h2 h3 h4
  go_enter Try.func38, Try.ntmps38
  go_wp2_with fail
  go_region
  go_upto_region 5 with fail
  go_cut [] from 31 to 33 (fun wx => RDb lo N w wx q q { s with term := s.term + 1, vote := s.id, role := 2 })
  case first =>
    go_wp2_with fail
    go_meet
    exact HD4.out
  case rest =>
    have HD5 := Lib.hid hcut
    obtain ⟨wa, rfl⟩ : ∃ wa, wa = wc := ⟨_, rfl⟩
    have h5 := hcut.rb.oneY hN s.id
    have h6 := h5.rb.noN
    obtain ⟨c0, _, _, _, _, _, _, _, _, _, c10, c11⟩ := hcut.rb.cells
    have f10 := Blk.free (hcut.rb.below (alloc_below wa (.cells #[.int .i64 s.id] 3))).blk 10
    have z10 := (hcut.rb.below (alloc_below wa (.cells #[.int .i64 s.id] 3))).cells.2.2.2.2.2.2.2.2.2.2.1
    have f11 := Blk.free h5.rb.blk 11
    have z11 := h5.rb.cells.2.2.2.2.2.2.2.2.2.2.2
    have h7 := (((hcut.then h5).then h6).am (s' := stood s) rfl rfl rfl HOK.out).rd (only_y s.id) (only_n s.id)
    have HD7 := Lib.hid h7
    clear hcut c1 c2 c6 e6 f1 f2 f6 h5 h6 h7
    go_upto_region 8 with fail
    obtain ⟨wb, hwb⟩ : ∃ wb, ((wa.alloc (.cells #[.int .i64 s.id] 3)).setCell ⟨q.g, 10, none⟩ (.slice (some ⟨wa.heap.size, 0, none⟩) 1 1)).setCell ⟨q.g, 11, none⟩ (.slice none 0 0) = wb := ⟨_, rfl⟩
    rw [hwb] at HD7
    simp only [hwb]
    have HWB := Lib.hid hwb
    clear hwb
    obtain ⟨g0, g1, _, g3, g4, _, _, _, _, _, g10, _⟩ := HD7.out.rm.rb.cells
    rw [show (stood s).vs = s.vs from rfl] at g3
    rw [show (stood s).ls = s.ls from rfl] at g4
    rw [show (stood s).term = s.term + 1 from rfl] at g1
    have HWC := Lib.hid (fun W (hW : Below wb.heap.size wb W) => refwins_any q.VA s.vs.length q.vc s.vs q.LA s.ls.length q.lc s.ls (some ⟨wa.heap.size, 0, none⟩) 1 1 [s.id] W (HD7.out.rm.rb.below hW).vs (HD7.out.rm.rb.below hW).ls (row_rdI (HD7.out.rm.rb.below hW).ry))
    rw [show winsG s.vs s.ls [s.id] = wonA s.vs (onlyA s.id) from HWA.out _ _ HD7.out.rm] at HWC
    unfold grpV at HWC
    clear c10 c11 f10 f11 z10 z11
    go_cut [7] from 45 to 53 (fun c wx => c = .bool (wonA s.vs (onlyA s.id)) ∧ Below wb.heap.size wb wx)
    case first =>
      go_region_held3 (fun w' => w'.cell? ⟨q.g, 3, none⟩ = some (.slice q.VA s.vs.length q.vc) ∧ w'.cell? ⟨q.g, 4, none⟩ = some (.slice q.LA s.ls.length q.lc) ∧ w'.cell? ⟨q.g, 10, none⟩ = some (.slice (some ⟨wa.heap.size, 0, none⟩) 1 1)) (first | exact ⟨by assumption, by assumption, by assumption⟩ | go_keep) (first
        | (go_at_call 37; refine (HWC.out _ (by exact below_d1 wb)).mono ?_; rintro e w5 ⟨rfl, hb5⟩; have HB5 := Lib.hid ((below_d1 wb).trans hb5); have y3 := (hb5.cell (lt_of_cell (show World.cell? _ _ = some _ from g3))).trans g3; have y4 := (hb5.cell (lt_of_cell (show World.cell? _ _ = some _ from g4))).trans g4; have y10 := (hb5.cell (lt_of_cell (show World.cell? _ _ = some _ from g10))).trans g10; clear hb5))
      all_goals
        go_wp2_with fail
        go_meet
        exact ⟨rfl, HB5.out⟩
    case rest =>
      obtain ⟨rfl, hbw⟩ := hcut
      obtain ⟨wd, rfl⟩ : ∃ wd, wd = wc := ⟨_, rfl⟩
      have HD8 := Lib.hid (HD7.out.to hbw)
      have e1 := HD8.out.rm.rb.cells.2.1
      rw [show (stood s).term = s.term + 1 from rfl] at e1
      clear hbw c0 g0 g1 g3 g4 g10 HWC
      cases hw : wonA s.vs (onlyA s.id) with
      | true =>
        have HE := Lib.hid (show run s last lt = (leadS (stood s), []) by rw [HR.out, if_pos hw])
        have HL := Lib.hid (rlead_any _ (stood s) wd HD8.out.rm)
        clear hw
        go_wp2_with fail
        refine HL.out.mono ?_
        rintro e w6 ⟨rfl, hd6⟩
        have HD9 := Lib.hid (HD8.out.then hd6)
        clear hd6
        go_wp2
        go_ret
        exact ⟨_, _, rfl, by rw [HE.out]; exact RA.emp HD9.out rfl⟩
      | false =>
        have HE := Lib.hid (show run s last lt = (stood s, askAll (stood s) 3 (s.term + 1) last lt) by rw [HR.out, if_neg (by rw [hw]; simp)])
        have HL := Lib.hid (rall_any _ (stood s) 3 (s.term + 1) last lt wd HD8.out.rm.rb)
        clear hw
        go_wp2_with fail
        refine HL.out.mono ?_
        rintro e w6 ⟨v6, rfl, hO⟩
        have HO := Lib.hid hO
        clear hO
        go_wp2
        go_ret
        exact ⟨_, _, rfl, by rw [HE.out]; exact RA.after HD8.out rfl HO.out⟩
set_option maxRecDepth 100000 in
set_option maxHeartbeats 3200000 in
theorem rtick_any {lo N : Nat} (q : Ql) (s : St) (draw last lt : Int) (w : World) (h : Rm lo N w q s) (hN : 1 ≤ N) (hwt : s.wait ≤ 1000000000) : Calls Try.prog 14 #[.pointer (some ⟨q.g, 0, none⟩), .int .i64 draw, .int .i64 last, .int .i64 lt] w fun e w' => ∃ v q', e = .returned v ∧ RA lo N w w' q q' (tick s draw last lt).1 v (tick s draw last lt).2 := by
  obtain ⟨_, _, _, _, _, _, c6, _, c8, _, _, _⟩ := h.rb.cells
  have hok := h.rb.ok
  have hw0 := hok.w0
  have hlm := hok.lm
  have hp := hok.pat1
  by_cases hr : s.role = 3
  · have q1 : (s.role == 3) = true := by simp [hr]
    have HD := Lib.hid (RD.same h (Below.refl _ _))
    have HR := Lib.hid (show tick s draw last lt = (s, []) by unfold tick; rw [if_pos hr])
    clear h hr
    go_enter Try.func14, Try.ntmps14
    go_wp2
    go_ret
    exact ⟨_, q, rfl, by rw [HR.out]; exact RA.emp HD.out rfl⟩
  have q1 : (s.role == 3) = false := by simpa using hr
  have hok1 : ({ s with wait := s.wait + 1 } : St).Ok := ⟨hok.id1, hok.hard, hok.grp, hok.pat1, by show 0 ≤ s.wait + 1; omega, hok.lm, hok.role, hok.lead, hok.am⟩
  have h1 := h.rb.set 8 (.int .i64 (s.wait + 1)) (s' := { s with wait := s.wait + 1 }) rfl (by omega) rfl rfl hok1
  have f8 := Blk.free h.rb.blk 8
  obtain ⟨x, hx⟩ : ∃ x, (decide (s.wait + 1 < s.lim) || !hasI s.vs s.id) = x := ⟨_, rfl⟩
  have HX := Lib.hid hx
  have HT := Lib.hid (show tick s draw last lt = if x then ({ s with wait := s.wait + 1 }, []) else hope { s with wait := 0, lim := s.pat + (max draw 0).tmod s.pat } last lt by
    rw [← hx]
    unfold tick
    rw [if_neg hr]
    by_cases a : s.wait + 1 < s.lim ∨ hasI s.vs s.id = false
    · have e : (decide (s.wait + 1 < s.lim) || !hasI s.vs s.id) = true := by simpa using a
      rw [e, if_pos a]; rfl
    · have e : (decide (s.wait + 1 < s.lim) || !hasI s.vs s.id) = false := Bool.eq_false_iff.2 (by intro e; simp at e; exact a e)
      rw [e, if_neg a]; rfl)
  have hd := draw_in draw s.pat hp
  obtain ⟨z, hz⟩ : ∃ z, (max draw 0).tmod s.pat = z := ⟨_, rfl⟩
  rw [hz] at hd HT
  have HD1 := Lib.hid h1
  have HAM := Lib.hid (And.intro h.hy h.hn)
  have HRV := Lib.hid (fun W (hW : Below (w.setCell ⟨q.g, 8, none⟩ (.int .i64 (s.wait + 1))).heap.size (w.setCell ⟨q.g, 8, none⟩ (.int .i64 (s.wait + 1))) W) => has_any q.VA s.vs.length q.vc s.vs s.id W (h1.rb.below hW).vs)
  have HOK := Lib.hid hok
  obtain ⟨e0, _, _, e3, _, e5, _, _, e8, e9, _, _⟩ := h1.rb.cells
  have j1 : IntKind.i64.wrap (s.pat + z) = s.pat + z := IntWalk.i64_in _ (by omega)
  clear h h1 hr hx hok hok1
  go_enter Try.func14, Try.ntmps14
  go_upto_region 4 with fail
  generalize hwq : w.setCell ⟨q.g, 8, none⟩ (.int .i64 (s.wait + 1)) = wq at *
  have HWQ := Lib.hid hwq
  clear hwq
  go_cut [9] from 23 to 32 (fun c wx => c = .bool (hasI s.vs s.id) ∧ Below wq.heap.size wq wx)
  case first =>
    go_region_held3 (fun w' => w'.cell? ⟨q.g, 3, none⟩ = some (.slice q.VA s.vs.length q.vc) ∧ w'.cell? ⟨q.g, 0, none⟩ = some (.int .i64 s.id)) (first | exact ⟨by assumption, by assumption⟩ | go_keep) (first
      | (go_at_call 36; refine (HRV.out _ (by exact below_d1 wq)).mono ?_; rintro e w' ⟨rfl, rfl⟩))
    all_goals
      go_wp2_with fail
      go_meet
      exact ⟨rfl, below_d1 wq⟩
  case rest =>
    obtain ⟨rfl, hbw⟩ := hcut
    obtain ⟨wa, rfl⟩ : ∃ wa, wa = wc := ⟨_, rfl⟩
    have HD2 := Lib.hid (HD1.out.to hbw)
    clear hbw c6 c8 f8 e0 e3 e5 e8 e9
    obtain ⟨_, _, _, _, _, _, _, _, e8, e9, _, _⟩ := HD2.out.rb.cells
    go_upto_region 5 with fail
    go_cut [45] from 33 to 44 (fun c wx => c = .bool x ∧ Below wa.heap.size wa wx)
    case first =>
      have hx := HX.out
      by_cases a : s.wait + 1 < s.lim
      · have d1 : decide (s.wait + 1 < s.lim) = true := decide_eq_true a
        have HE := Lib.hid (show x = true by rw [← hx, d1]; rfl)
        clear hx a
        go_quiet (fail)
        go_wp2_with fail
        go_meet
        exact ⟨by rw [HE.out], by simpa using below_dr wa _⟩
      · have d1 : decide (s.wait + 1 < s.lim) = false := decide_eq_false a
        have HE := Lib.hid (show x = !hasI s.vs s.id by rw [← hx, d1]; rfl)
        clear hx a
        go_quiet (fail)
        go_wp2_with fail
        go_meet
        exact ⟨by rw [HE.out], by simpa using below_dr wa _⟩
    case rest =>
      obtain ⟨rfl, hbw⟩ := hcut
      obtain ⟨wb, rfl⟩ : ∃ wb, wb = wc := ⟨_, rfl⟩
      have HD3 := Lib.hid (HD2.out.to hbw)
      clear hbw e8 e9
      cases x with
      | true =>
        have HE := Lib.hid (show tick s draw last lt = ({ s with wait := s.wait + 1 }, []) by rw [HT.out]; rfl)
        go_wp2
        go_ret
        first | exact ⟨_, q, rfl, by rw [HE.out]; exact RA.emp (HD3.out.rd HAM.out.1 HAM.out.2) rfl⟩ | exact ⟨_, rfl, q, by rw [HE.out]; exact RA.emp (HD3.out.rd HAM.out.1 HAM.out.2) rfl⟩
      | false =>
        have HE := Lib.hid (show tick s draw last lt = hope { s with wait := 0, lim := s.pat + z } last lt by rw [HT.out]; rfl)
        have hok := HOK.out
        have s1 := HD3.out.rb.set 8 (.int .i64 0) (s' := { s with wait := 0 }) rfl (by omega) rfl rfl ⟨hok.id1, hok.hard, hok.grp, hok.pat1, Int.le_refl _, hok.lm, hok.role, hok.lead, hok.am⟩
        have hok2 : ({ s with wait := 0, lim := s.pat + z } : St).Ok := ⟨hok.id1, hok.hard, hok.grp, hok.pat1, Int.le_refl _, by show 1 ≤ s.pat + z ∧ s.pat + z ≤ 2000; omega, hok.role, hok.lead, hok.am⟩
        have s2 := (s1.rb.set 9 (.int .i64 (s.pat + z)) (s' := { s with wait := 0, lim := s.pat + z }) rfl (by omega) rfl rfl hok2).to (below_d1 _)
        have HD4 := Lib.hid ((HD3.out.then s1).then s2)
        have HOK2 := Lib.hid (hoped_ok hok2)
        have HO2 := Lib.hid hok2
        have HWA := Lib.hid (fun (W : World) (qq : Ql) (hW : Rm lo N W qq (hoped { s with wait := 0, lim := s.pat + z })) => hW.wins)
        have e8 := HD3.out.rb.cells.2.2.2.2.2.2.2.2.1
        have g5 := s1.rb.cells.2.2.2.2.2.1
        have g9 := s1.rb.cells.2.2.2.2.2.2.2.2.2.1
        have f8 := Blk.free HD3.out.rb.blk 8
        have f9 := Blk.free s1.rb.blk 9
        clear s1 s2 hok hok2
        go_upto_region 8 with fail
        go_cut [] from 49 to 63 (fun wx => RDb lo N w wx q q { s with wait := 0, lim := s.pat + z })
        case first =>
          by_cases hdr : draw < 0
          · have j2 : max draw 0 = 0 := by omega
            rw [j2] at hz
            have q3 : decide (draw < 0) = true := decide_eq_true hdr
            clear j2
            go_region
            go_wp2_with fail
            go_meet
            exact HD4.out
          · have j2 : max draw 0 = draw := by omega
            rw [j2] at hz
            have q3 : decide (draw < 0) = false := decide_eq_false hdr
            clear j2
            go_region
            go_wp2_with fail
            go_meet
            exact HD4.out
        case rest =>
          have HD5 := Lib.hid hcut
          obtain ⟨wd, rfl⟩ : ∃ wd, wd = wc := ⟨_, rfl⟩
          have s3 := hcut.rb.set 6 (.int .i64 1) (s' := { s with wait := 0, lim := s.pat + z, role := 1 }) rfl (by omega) rfl rfl (role_ok HO2.out (by omega))
          have s4 := s3.rb.set 7 (.int .i64 0) (s' := { s with wait := 0, lim := s.pat + z, role := 1, lead := 0 }) rfl (by omega) rfl rfl ⟨HO2.out.id1, HO2.out.hard, HO2.out.grp, HO2.out.pat1, Int.le_refl _, HO2.out.lm, by simp, by simp, HO2.out.am⟩
          have HD6 := Lib.hid ((hcut.then s3).then s4)
          have e6 := hcut.rb.cells.2.2.2.2.2.2.1
          have f6 := Blk.free hcut.rb.blk 6
          have e7 := s3.rb.cells.2.2.2.2.2.2.2.1
          have f7 := Blk.free s3.rb.blk 7
          clear hcut s3 s4 e8 g5 g9 f8 f9
          go_upto_region 10 with fail
          go_cut [] from 67 to 69 (fun wx => RDb lo N w wx q q { s with wait := 0, lim := s.pat + z, role := 1, lead := 0 })
          case first =>
            go_wp2_with fail
            go_meet
            exact HD6.out
          case rest =>
            obtain ⟨we, rfl⟩ : ∃ we, we = wc := ⟨_, rfl⟩
            have h5 := hcut.rb.oneY hN s.id
            have h6 := h5.rb.noN
            obtain ⟨c0, _, _, _, _, _, _, _, _, _, c10, c11⟩ := hcut.rb.cells
            have f10 := Blk.free (hcut.rb.below (alloc_below we (.cells #[.int .i64 s.id] 3))).blk 10
            have z10 := (hcut.rb.below (alloc_below we (.cells #[.int .i64 s.id] 3))).cells.2.2.2.2.2.2.2.2.2.2.1
            have f11 := Blk.free h5.rb.blk 11
            have z11 := h5.rb.cells.2.2.2.2.2.2.2.2.2.2.2
            have h7 := (((hcut.then h5).then h6).am (s' := hoped { s with wait := 0, lim := s.pat + z }) rfl rfl rfl HOK2.out).rd (only_y s.id) (only_n s.id)
            have HD7 := Lib.hid h7
            clear hcut e6 e7 f6 f7 h5 h6 h7
            go_upto_region 13 with fail
            obtain ⟨wf, hwf⟩ : ∃ wf, ((we.alloc (.cells #[.int .i64 s.id] 3)).setCell ⟨q.g, 10, none⟩ (.slice (some ⟨we.heap.size, 0, none⟩) 1 1)).setCell ⟨q.g, 11, none⟩ (.slice none 0 0) = wf := ⟨_, rfl⟩
            rw [hwf] at HD7
            simp only [hwf]
            have HWF := Lib.hid hwf
            clear hwf
            obtain ⟨g0, g1, _, g3, g4, _, _, _, _, _, g10, _⟩ := HD7.out.rm.rb.cells
            rw [show (hoped { s with wait := 0, lim := s.pat + z }).vs = s.vs from rfl] at g3
            rw [show (hoped { s with wait := 0, lim := s.pat + z }).ls = s.ls from rfl] at g4
            have HWC := Lib.hid (fun W (hW : Below wf.heap.size wf W) => refwins_any q.VA s.vs.length q.vc s.vs q.LA s.ls.length q.lc s.ls (some ⟨we.heap.size, 0, none⟩) 1 1 [s.id] W (HD7.out.rm.rb.below hW).vs (HD7.out.rm.rb.below hW).ls (row_rdI (HD7.out.rm.rb.below hW).ry))
            rw [show winsG s.vs s.ls [s.id] = wonA s.vs (onlyA s.id) from HWA.out _ _ HD7.out.rm] at HWC
            unfold grpV at HWC
            clear c0 c10 c11 f10 f11 z10 z11 g0 g1
            go_cut [10] from 81 to 89 (fun c wx => c = .bool (wonA s.vs (onlyA s.id)) ∧ Below wf.heap.size wf wx)
            case first =>
              go_region_held3 (fun w' => w'.cell? ⟨q.g, 3, none⟩ = some (.slice q.VA s.vs.length q.vc) ∧ w'.cell? ⟨q.g, 4, none⟩ = some (.slice q.LA s.ls.length q.lc) ∧ w'.cell? ⟨q.g, 10, none⟩ = some (.slice (some ⟨we.heap.size, 0, none⟩) 1 1)) (first | exact ⟨by assumption, by assumption, by assumption⟩ | go_keep) (first
                | (go_at_call 37; refine (HWC.out _ (by exact below_d1 wf)).mono ?_; rintro e w5 ⟨rfl, hb5⟩; have HB5 := Lib.hid ((below_d1 wf).trans hb5); have y3 := (hb5.cell (lt_of_cell (show World.cell? _ _ = some _ from g3))).trans g3; have y4 := (hb5.cell (lt_of_cell (show World.cell? _ _ = some _ from g4))).trans g4; have y10 := (hb5.cell (lt_of_cell (show World.cell? _ _ = some _ from g10))).trans g10; clear hb5))
              all_goals
                go_wp2_with fail
                go_meet
                exact ⟨rfl, HB5.out⟩
            case rest =>
              obtain ⟨rfl, hbw⟩ := hcut
              obtain ⟨wh, rfl⟩ : ∃ wh, wh = wc := ⟨_, rfl⟩
              have HD8 := Lib.hid (HD7.out.to hbw)
              have e1 := HD8.out.rm.rb.cells.2.1
              rw [show (hoped { s with wait := 0, lim := s.pat + z }).term = s.term from rfl] at e1
              have ht1 : 0 ≤ s.term := ((okHard_iff _ _).1 HOK.out.hard).1.1
              have ht2 : s.term ≤ 1099511627776 := ((okHard_iff _ _).1 HOK.out.hard).1.2
              clear hbw g3 g4 g10 HWC
              cases hw : wonA s.vs (onlyA s.id) with
              | true =>
                have HE2 := Lib.hid (show tick s draw last lt = run (hoped { s with wait := 0, lim := s.pat + z }) last lt by rw [HE.out]; unfold hope; rw [if_pos (show wonA ({ s with wait := 0, lim := s.pat + z } : St).vs (onlyA ({ s with wait := 0, lim := s.pat + z } : St).id) = true from hw)])
                have HL := Lib.hid (rrun_any _ (hoped { s with wait := 0, lim := s.pat + z }) last lt wh HD8.out.rm hN)
                clear hw
                go_wp2_with fail
                refine HL.out.mono ?_
                rintro e w6 ⟨v6, q6, rfl, hA⟩
                have HA := Lib.hid hA
                clear hA
                go_wp2
                go_ret
                first | exact ⟨_, _, rfl, by rw [HE2.out]; exact RA.then HD8.out rfl HA.out⟩ | exact ⟨_, rfl, _, by rw [HE2.out]; exact RA.then HD8.out rfl HA.out⟩
              | false =>
                have HE2 := Lib.hid (show tick s draw last lt = (hoped { s with wait := 0, lim := s.pat + z }, askAll (hoped { s with wait := 0, lim := s.pat + z }) 1 (s.term + 1) last lt) by rw [HE.out]; unfold hope; rw [if_neg (show ¬ wonA ({ s with wait := 0, lim := s.pat + z } : St).vs (onlyA ({ s with wait := 0, lim := s.pat + z } : St).id) = true by intro e; rw [show wonA ({ s with wait := 0, lim := s.pat + z } : St).vs (onlyA ({ s with wait := 0, lim := s.pat + z } : St).id) = wonA s.vs (onlyA s.id) from rfl, hw] at e; cases e)]; rfl)
                have HL := Lib.hid (rall_any _ (hoped { s with wait := 0, lim := s.pat + z }) 1 (s.term + 1) last lt wh HD8.out.rm.rb)
                clear hw
                go_wp2_with fail
                refine HL.out.mono ?_
                rintro e w6 ⟨v6, rfl, hO⟩
                have HO := Lib.hid hO
                clear hO
                go_wp2
                go_ret
                first | exact ⟨_, _, rfl, by rw [HE2.out]; exact RA.after HD8.out rfl HO.out⟩ | exact ⟨_, rfl, _, by rw [HE2.out]; exact RA.after HD8.out rfl HO.out⟩
end Go.Proofs.Ytjajgjpkiofhmaa.El
