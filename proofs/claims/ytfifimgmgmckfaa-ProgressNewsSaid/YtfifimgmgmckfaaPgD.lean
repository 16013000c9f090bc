/-
  Layer 11, in the program: Sent, Acked, Refused. Conditions: as each theorem states.
-/
import Derived.Test.YtfifimgmgmckfaaPgC
import Derived.Deep.CutRange
import Derived.Deep.CutBlock
namespace Go.Proofs.Ytfifimgmgmckfaa.Pg
open Go.RowKit Go.Proofs.Ytfifimgmgmckfaa.Qu Go.Proofs.Ytfifimgmgmckfaa.Fld
set_option linter.unusedVariables false

section
variable (lo g : Nat) (s : St) (A : Option Addr) (cap : Nat) (w : World)
set_option maxRecDepth 100000 in
set_option maxHeartbeats 3200000 in
theorem sent_any (last : Int) (h : ImA lo w g s A cap) (hok : s.Ok) : Calls Try.prog 10 #[.pointer (some ⟨g, 0, none⟩), .int .i64 last] w fun e w' => e = .returned (.int .i64 (sentE s last)) ∧ Did lo w w' g (sentS s last) := by
  have HM := Lib.hid (may_any lo g s A cap w h)
  have HV := Lib.hid (fun W => validIndex_any last W)
  have HI := Lib.hid h
  have HE7 := Lib.hid (fun (e : sentOk s last = false) => show sentE s last = 7 ∧ sentS s last = s by unfold sentE sentS; rw [e]; exact ⟨rfl, rfl⟩)
  have HSO := Lib.hid (show sentOk s last = (may s && decide (s.nx - 1 ≤ last) && okI last) from rfl)
  obtain ⟨k1, k2, k3, k4, k5, k6, k7, k8, k9⟩ := hok
  have HC := Lib.hid (fun W (hb : Below w.heap.size w W) => (h.below hb).cells)
  cases hm : may s with
  | false =>
    rw [hm] at HM
    have HR := Lib.hid (HE7.out (by rw [HSO.out, hm]; rfl))
    clear h hm k1
    go_enter Try.func10, Try.ntmps10
    go_wp2_with (go_at_call 18; refine HM.out.mono ?_; rintro e w1 ⟨rfl, hb⟩; have HB := Lib.hid hb; clear hb)
    go_ret
    exact ⟨by rw [HR.out.1]; rfl, by rw [HR.out.2]; exact Did.quiet HI.out HB.out⟩
  | true =>
    rw [hm] at HM
    by_cases hn : last < s.nx - 1
    · have HR := Lib.hid (HE7.out (by rw [HSO.out, show decide (s.nx - 1 ≤ last) = false by simp; omega]; simp))
      have d1 : decide (last < s.nx - 1) = true := decide_eq_true hn
      clear h hm k1
      go_enter Try.func10, Try.ntmps10
      go_wp2_with (go_at_call 18; refine HM.out.mono ?_; rintro e w1 ⟨rfl, hb⟩; have HB := Lib.hid hb; obtain ⟨c0, c1, c2, c3, c4, c5, c6⟩ := HC.out _ hb; clear hb)
      go_ret
      exact ⟨by rw [HR.out.1]; rfl, by rw [HR.out.2]; exact Did.quiet HI.out HB.out⟩
    have d1 : decide (last < s.nx - 1) = false := decide_eq_false hn
    cases hv : okI last with
    | false =>
      rw [hv] at HV
      have HR := Lib.hid (HE7.out (by rw [HSO.out, hv]; simp))
      clear h hm k1 hn hv
      go_enter Try.func10, Try.ntmps10
      go_wp2_with (first | (go_at_call 18; refine HM.out.mono ?_; rintro e w1 ⟨rfl, hb⟩; have HB := Lib.hid hb; obtain ⟨c0, c1, c2, c3, c4, c5, c6⟩ := HC.out _ hb; clear hb) | (go_at_call 20; refine (HV.out _).mono ?_; rintro e w' ⟨rfl, rfl⟩))
      go_ret
      exact ⟨by rw [HR.out.1]; rfl, by rw [HR.out.2]; exact Did.quiet HI.out HB.out⟩
    | true =>
      rw [hv] at HV
      have hso : sentOk s last = true := by rw [HSO.out, hm, hv, show decide (s.nx - 1 ≤ last) = true by simp; omega]; rfl
      have hvi := (okI_iff last).1 hv
      have HE := Lib.hid (show sentE s last = 0 by unfold sentE; rw [if_pos hso])
      by_cases h0 : s.state = 0
      · have q0 : (s.state == 0) = true := by simp [h0]
        have HR := Lib.hid (show sentS s last = { s with wt := true } by unfold sentS; rw [if_pos hso, if_pos h0])
        clear h hm k1 hn hv hso h0
        go_enter Try.func10, Try.ntmps10
        go_wp2_with (first | (go_at_call 18; refine HM.out.mono ?_; rintro e w1 ⟨rfl, hb⟩; have HB := Lib.hid hb; obtain ⟨c0, c1, c2, c3, c4, c5, c6⟩ := HC.out _ hb; have h1 := (HI.out.below hb); have f4 := Blk.free h1.blk 4; have h2 := h1.set 4 (.bool true) (s' := { s with wt := true }) rfl (by omega) rfl; have HD := Lib.hid (Did.after HB.out HI.out.size (show Did lo w1 _ g { s with wt := true } from ⟨⟨_, _, h2⟩, (Below.refl lo w1).setCell (p := ⟨g, 4, none⟩) h1.base _, h1.size⟩)); clear hb h1 h2) | (go_at_call 20; refine (HV.out _).mono ?_; rintro e w' ⟨rfl, rfl⟩))
        go_ret
        exact ⟨by rw [HE.out]; rfl, by rw [HR.out]; exact HD.out⟩
      have q0 : (s.state == 0) = false := by simp [h0]
      by_cases hx : s.nx ≤ last
      · have d2 : decide (s.nx ≤ last) = true := decide_eq_true hx
        have HR := Lib.hid (show sentS s last = { s with nx := last + 1, fl := s.fl ++ [last] } by unfold sentS; rw [if_pos hso, if_neg h0, if_pos hx])
        have HLW := Lib.hid (show s.fl.length ≤ 1000 by omega)
        clear h hm k1 hn hv hso h0 hx
        go_enter Try.func10, Try.ntmps10
        go_wp2_with (first
          | (go_at_call 18; refine HM.out.mono ?_; rintro e w1 ⟨rfl, hb⟩; have HB := Lib.hid hb; obtain ⟨c0, c1, c2, c3, c4, c5, c6⟩ := HC.out _ hb; have h1 := (HI.out.below hb); have f2 := Blk.free h1.blk 2; have h2 := h1.set 2 (.int .i64 (last + 1)) (s' := { s with nx := last + 1 }) rfl (by omega) rfl; have HD := Lib.hid (show Below lo w1 _ from (Below.refl lo w1).setCell (p := ⟨g, 2, none⟩) h1.base (.int .i64 (last + 1))); have h3 := h2.below (alloc_below _ (.cells #[.int .i64 last] 3)); have HI3 := Lib.hid h3; obtain ⟨e0, e1, e2, e3, e4, e5, e6⟩ := h3.cells; have hq := (Blk.new (w1.setCell ⟨g, 2, none⟩ (.int .i64 (last + 1))) #[.int .i64 last] 3).cell 0 _ rfl; rw [show (w1.setCell ⟨g, 2, none⟩ (.int .i64 (last + 1))).heap.size = w1.heap.size by simp [World.setCell]] at hq; have HSZ := Lib.hid h1.size; clear hb h1 h2 h3)
          | (go_at_call 20; refine (HV.out _).mono ?_; rintro e w' ⟨rfl, rfl⟩)
          | (at_builtin; refine wpList_append_fly rfl _ _ rfl lo g A cap s.fl rfl HI3.out.fly HLW.out last _ rfl hq HI3.out.size HI3.out.blk.lt ?_; intro A' cap' w4 hf4 hb4 hg4; have hk4 := hg4.trans HI3.out.blk; have HB4 := Lib.hid hb4; have HF4 := Lib.hid hf4; have HK4 := Lib.hid hk4; have j5 := Blk.cell hk4 5 _ rfl; have j6 := Blk.free hk4 5; clear hf4 hb4 hg4 hk4))
        go_ret
        refine ⟨by rw [HE.out]; rfl, ?_⟩
        rw [HR.out]
        have hs := Nat.le_trans HI.out.size HB.out.size
        exact ⟨⟨A', cap', HI3.out.base, by have hq := Blk.set HK4.out 5 (.slice A' (s.fl.length + 1) cap') (by show 5 < 7; omega); unfold ndC; rw [show (s.fl ++ [last]).length = s.fl.length + 1 by simp]; exact hq, HF4.out.far (Far.set _ _ _ _)⟩, (((HB.out.mono HI.out.size).trans HD.out).trans (((alloc_below _ _).mono (by simpa [World.setCell] using hs)).trans HB4.out)).trans ((Below.refl lo w4).setCell (p := ⟨g, 5, none⟩) HI3.out.base _), HI.out.size⟩
      · have d2 : decide (s.nx ≤ last) = false := decide_eq_false hx
        have HR := Lib.hid (show sentS s last = s by unfold sentS; rw [if_pos hso, if_neg h0, if_neg hx])
        clear h hm k1 hn hv hso h0 hx
        go_enter Try.func10, Try.ntmps10
        go_wp2_with (first | (go_at_call 18; refine HM.out.mono ?_; rintro e w1 ⟨rfl, hb⟩; have HB := Lib.hid hb; obtain ⟨c0, c1, c2, c3, c4, c5, c6⟩ := HC.out _ hb; clear hb) | (go_at_call 20; refine (HV.out _).mono ?_; rintro e w' ⟨rfl, rfl⟩))
        go_ret
        exact ⟨by rw [HE.out]; rfl, by rw [HR.out]; exact Did.quiet HI.out HB.out⟩
set_option maxRecDepth 100000 in
set_option maxHeartbeats 3200000 in
theorem acked_any (i : Int) (h : ImA lo w g s A cap) (hok : s.Ok) : Calls Try.prog 11 #[.pointer (some ⟨g, 0, none⟩), .int .i64 i] w fun e w' => e = .returned (.bool (ackB s i)) ∧ Did lo w w' g (ackS s i) := by
  have HV := Lib.hid (validIndex_any i w)
  have HAB := Lib.hid (show ackB s i = (okI i && decide (s.mt < i)) from rfl)
  cases hv : okI i with
  | false =>
    rw [hv] at HV
    have HS := Lib.hid (show ackS s i = s by unfold ackS; rw [hv]; rfl)
    have HD := Lib.hid (Did.quiet h (Below.refl _ _))
    have HR := Lib.hid (show ackB s i = false by rw [HAB.out, hv]; rfl)
    clear h hv
    go_enter Try.func11, Try.ntmps11
    go_wp2_with (go_at_call 20; refine HV.out.mono ?_; rintro e w' ⟨rfl, rfl⟩)
    go_ret
    exact ⟨by rw [HR.out]; rfl, by rw [HS.out]; exact HD.out⟩
  | true =>
    rw [hv] at HV
    have HR := Lib.hid (show ackB s i = decide (s.mt < i) by rw [HAB.out, hv]; rfl)
    have hvi := (okI_iff i).1 hv
    have HV1 := Lib.hid hv
    have HI := Lib.hid h
    have HK := Lib.hid hok
    have HSZ := Lib.hid h.size
    have k2 := hok.m0
    have k3 := hok.mn
    have k4 := hok.nM
    obtain ⟨c0, c1, c2, c3, c4, c5, c6⟩ := h.cells
    have f1 := Blk.free h.blk 1
    clear hv hok h
    go_enter Try.func11, Try.ntmps11
    go_upto_region 4 with (go_at_call 20; refine HV.out.mono ?_; rintro e w' ⟨rfl, rfl⟩)
    generalize hdd : decide (s.mt < i) = dd at *
    have HDD := Lib.hid hdd
    clear hdd
    go_cut [] from 15 to 23 (fun wx => ImA lo wx g { s with mt := max s.mt i } A cap ∧ Below lo w wx)
    case first =>
      have HF := Lib.hid (fun m (hm : max s.mt i = m) => show ImA lo (w.setCell ⟨g, 1, none⟩ (.int .i64 m)) g { s with mt := max s.mt i } A cap ∧ Below lo w (w.setCell ⟨g, 1, none⟩ (.int .i64 m)) from ⟨by rw [hm]; exact HI.out.set 1 (.int .i64 m) (s' := { s with mt := m }) rfl (by omega) rfl, (Below.refl lo w).setCell (p := ⟨g, 1, none⟩) HI.out.base _⟩)
      by_cases hm : i ≤ s.mt
      · go_wp2_with fail
        go_meet
        exact HF.out _ (by omega)
      · go_wp2_with fail
        go_meet
        exact HF.out _ (by omega)
    case rest =>
      obtain ⟨hI1, hB1⟩ := hcut
      have HI1 := Lib.hid hI1
      have HB1 := Lib.hid hB1
      obtain ⟨d0, d1, d2, d3, d4, d5, d6⟩ := hI1.cells
      have g2 := Blk.free hI1.blk 2
      clear hI1 hB1 c0 c1 c2 c3 c4 c5 c6 f1
      obtain ⟨m, hm⟩ : ∃ m, max s.mt i = m := ⟨_, rfl⟩
      have HM := Lib.hid (show max s.mt i = m ∧ s.mt ≤ m ∧ i ≤ m ∧ m < 1099511627776 from ⟨hm, by omega, by omega, by omega⟩)
      have m1 := HM.out.2.1
      have m2 := HM.out.2.2.2
      simp only [hm] at d0 d1 d2 d3 d4 d5 d6
      go_upto_region 5 with fail
      go_cut [] from 24 to 36 (fun wx => ImA lo wx g (ackM s i) A cap ∧ Below lo w wx)
      case first =>
        have HF := Lib.hid (fun n (hn : max s.nx (max s.mt i + 1) = n) => show ImA lo (wc.drew.setCell ⟨g, 2, none⟩ (.int .i64 n)) g (ackM s i) A cap ∧ Below lo w (wc.drew.setCell ⟨g, 2, none⟩ (.int .i64 n)) from ⟨by unfold ackM; rw [hn]; exact (HI1.out.below (below_dr _ 1)).set 2 (.int .i64 n) (s' := { s with mt := max s.mt i, nx := n }) rfl (by omega) rfl, (HB1.out.trans (((below_dr wc 1).mono HI1.out.size).setCell (p := ⟨g, 2, none⟩) HI1.out.base _))⟩)
        have j0 : wc.drew.cell? ⟨g, 0, none⟩ = some (.int .i64 s.state) := d0
        have j1 : wc.drew.cell? ⟨g, 1, none⟩ = some (.int .i64 m) := d1
        have j2 : wc.drew.cell? ⟨g, 2, none⟩ = some (.int .i64 s.nx) := d2
        have jw : IntKind.i64.wrap (m + 1) = m + 1 := IntWalk.i64_in _ (by omega)
        have j3 : wc.drew.frozen? ⟨g, 2, none⟩ = false := g2
        clear hm
        by_cases hn : m + 1 ≤ s.nx
        · go_still_tail 13, (by kernel_rfl)
          change wpList _ _ _ _ _ wc.drew
          generalize wc.drew = wd at *
          go_wp2_with fail
          all_goals
            go_meet
            exact HF.out _ (by rw [HM.out.1]; omega)
        · go_still_tail 13, (by kernel_rfl)
          change wpList _ _ _ _ _ wc.drew
          generalize wc.drew = wd at *
          go_wp2_with fail
          all_goals
            go_meet
            exact HF.out _ (by rw [HM.out.1]; omega)
      case rest =>
        obtain ⟨hI2, hB2⟩ := hcut
        have HI2 := Lib.hid hI2
        have HB2 := Lib.hid hB2
        obtain ⟨r0, r1, r2, r3, r4, r5, r6⟩ := hI2.cells
        have e0 : wc.cell? ⟨g, 0, none⟩ = some (Value.int .i64 s.state) := r0
        have e6 : wc.cell? ⟨g, 6, none⟩ = some (Value.int .i64 s.sp) := r6
        clear r0 r1 r3 r4 r5 r6
        have HAS := Lib.hid (show ackS s i = if s.state = 0 then enterS (ackM s i) 1 else if s.state = 1 then { ackM s i with fl := s.fl.drop (upTo s.fl i) } else if s.sp ≤ i then probeS (ackM s i) (ackM s i).nx else ackM s i by unfold ackS; rw [if_pos HV1.out])
        have HUL := Lib.hid (upTo_le s.fl i)
        clear hI2 hB2 hm d0 d1 d2 d3 d4 d5 d6 g2
        by_cases h0 : s.state = 0
        · have q0 : (s.state == 0) = true := by simp [h0]
          have HS := Lib.hid (show ackS s i = enterS (ackM s i) 1 by rw [HAS.out, if_pos h0])
          have HE := Lib.hid (enter_any lo g (ackM s i) A cap wc 1 HI2.out)
          clear h0
          go_wp2_with (go_at_call 21; refine HE.out.mono ?_; rintro e w4 ⟨rfl, hd⟩; have HD := Lib.hid hd; clear hd)
          go_ret
          exact ⟨by rw [HR.out]; rfl, by rw [HS.out]; exact ⟨HD.out.im, HB2.out.trans HD.out.bel, HSZ.out⟩⟩
        have q0 : (s.state == 0) = false := by simp [h0]
        by_cases h1 : s.state = 1
        · have q1 : (s.state == 1) = true := by simp [h1]
          have HS := Lib.hid (show ackS s i = { ackM s i with fl := s.fl.drop (upTo s.fl i) } by rw [HAS.out, if_neg h0, if_pos h1])
          have HU := Lib.hid (upTo_any lo g (ackM s i) A cap wc i HI2.out)
          have HL := Lib.hid (fun W (hW : Below wc.heap.size wc W) => land_any lo g (ackM s i) A cap W (upTo s.fl i) (upTo_le s.fl i) (HI2.out.below hW))
          change Hid (Calls _ _ _ wc fun e w' => e = .returned (.int .i64 (upTo s.fl i : Nat)) ∧ _) at HU
          generalize upTo s.fl i = u at *
          clear h0 h1
          go_wp2_with (first | (go_at_call 23; refine HU.out.mono ?_; rintro e w3 ⟨rfl, hb⟩; have HB3 := Lib.hid hb; clear hb) | (go_at_call 22; refine (HL.out _ HB3.out).mono ?_; rintro e w4 ⟨rfl, hd⟩; have HD := Lib.hid hd; clear hd))
          go_ret
          exact ⟨by rw [HR.out]; rfl, by rw [HS.out]; exact ⟨HD.out.im, HB2.out.trans ((HB3.out.mono HI2.out.size).trans HD.out.bel), HSZ.out⟩⟩
        have q1 : (s.state == 1) = false := by simp [h1]
        have q2 : (s.state == 2) = true := by have := HK.out.st; simp; omega
        by_cases h2 : s.sp ≤ i
        · have HS := Lib.hid (show ackS s i = probeS (ackM s i) (ackM s i).nx by rw [HAS.out, if_neg h0, if_neg h1, if_pos h2])
          have d3 : decide (s.sp ≤ i) = true := decide_eq_true h2
          have HP := Lib.hid (probe_any lo g (ackM s i) A cap wc (ackM s i).nx HI2.out)
          clear h0 h1 h2
          go_wp2_with (go_at_call 24; refine HP.out.mono ?_; rintro e w4 ⟨rfl, hd⟩; have HD := Lib.hid hd; clear hd)
          go_ret
          exact ⟨by rw [HR.out]; rfl, by rw [HS.out]; exact ⟨HD.out.im, HB2.out.trans HD.out.bel, HSZ.out⟩⟩
        · have HS := Lib.hid (show ackS s i = ackM s i by rw [HAS.out, if_neg h0, if_neg h1, if_neg h2])
          have d3 : decide (s.sp ≤ i) = false := decide_eq_false h2
          clear h0 h1 h2
          go_wp2_with fail
          go_ret
          exact ⟨by rw [HR.out]; rfl, by rw [HS.out]; exact ⟨⟨A, cap, HI2.out⟩, HB2.out, HSZ.out⟩⟩
end
end Go.Proofs.Ytfifimgmgmckfaa.Pg
