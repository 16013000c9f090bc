/-
  Layer 9, in the document's own: Change. Conditions: the lists can be read.
-/
import Derived.Test.YtcnligkndficoaaQuF0
import Derived.Test.YtcnligkndficoaaQuE
import Derived.Deep.RegionHeld3
import Derived.Deep.RegionWith
import Derived.Deep.CutRange
import Derived.Deep.CutBlock
namespace Go.Proofs.Ytcnligkndficoaa.Qu
open Go.RowKit Go.Proofs.Ytcnligkndficoaa.Fld
set_option linter.unusedVariables false

set_option maxRecDepth 100000 in
set_option maxHeartbeats 6400000 in
theorem refchange_any (VA : Option Addr) (vn vc : Nat) (vs : List Int) (LA : Option Addr) (ln lc : Nat) (ls : List Int) (kind x : Int) (w : World) (hv : RdI w VA vn vs) (hl : RdI w LA ln ls) :
    Calls Try.prog 23 #[grpV VA vn vc LA ln lc, .int .i64 kind, .int .i64 x] w (ChIs w (chG vs ls kind x)) := by
  have hb0 := alloc_below w (.cells #[.slice VA vn vc, .slice LA ln lc] 24)
  have hb1 : Below w.heap.size w ((w.alloc (.cells #[.slice VA vn vc, .slice LA ln lc] 24)).alloc (.cells #[.slice none 0 0, .slice none 0 0] 24)) := hb0.trans ((alloc_below _ _).mono hb0.size)
  have hk0 := (Blk.new w #[.slice VA vn vc, .slice LA ln lc] 24).past (.cells #[.slice none 0 0, .slice none 0 0] 24)
  have hk1 := Blk.new (w.alloc (.cells #[.slice VA vn vc, .slice LA ln lc] 24)) #[.slice none 0 0, .slice none 0 0] 24
  rw [show (w.alloc (.cells #[.slice VA vn vc, .slice LA ln lc] 24)).heap.size = w.heap.size + 1 by simp] at hk1
  have HR := Lib.hid (rightGroup_any VA vn vc vs LA ln lc ls _ (RdI.below hv hb1) (RdI.below hl hb1))
  have HB1 := Lib.hid hb1
  have HK0 := Lib.hid hk0
  have HK1 := Lib.hid hk1
  have HVR := Lib.hid hv
  have HLR := Lib.hid hl
  have HVL := Lib.hid hv.1
  have HLL := Lib.hid hl.1
  have HCG := Lib.hid (@chG_bad vs ls kind x)
  unfold grpV at HR ⊢
  have c0 := hk0.cell 0 (.slice VA vn vc) rfl
  have c1 := hk0.cell 1 (.slice LA ln lc) rfl
  clear hv hl hb0 hb1 hk0 hk1
  go_enter Try.func23, Try.ntmps23
  go_wp2_with fail
  refine HR.out.mono ?_
  clear HR c0 c1
  rintro e w1 ⟨rfl, hb⟩
  have HK0 := Lib.hid (HK0.out.below hb)
  have HK1 := Lib.hid (HK1.out.below hb)
  have HB1 := Lib.hid (HB1.out.trans (hb.mono HB1.out.size))
  clear hb
  have c0 := HK0.out.cell 0 (.slice VA vn vc) rfl
  have c1 := HK0.out.cell 1 (.slice LA ln lc) rfl
  have r0 := HK1.out.cell 0 (.slice none 0 0) rfl
  have r1 := HK1.out.cell 1 (.slice none 0 0) rfl
  have f0 := HK1.out.free 0
  have f1 := HK1.out.free 1
  have HEND := Lib.hid (fun (t0 : List Int × List Int × Int) (W : World) (KR : Blk W (w.heap.size + 1) #[.slice none 0 0, .slice none 0 0] 24) (hBW : Below w.heap.size w W) (er : Int) (hc : t0 = ([], [], er)) => show ChIs w t0 (.returned (.tuple #[.agg #[.slice none 0 0, .slice none 0 0], .int .i64 er])) ((W.setCell ⟨w.heap.size + 1, 0, none⟩ (.slice none 0 0)).setCell ⟨w.heap.size + 1, 1, none⟩ (.slice none 0 0)) from ⟨none, 0, none, 0, by rw [hc]; rfl, by rw [hc]; exact RdI.nil _ _, by rw [hc]; exact RdI.nil _ _, below_set (below_set hBW _ (by simp) _) _ (by simp) _⟩)
  by_cases hbad : ¬ (grpOk vs ls = true ∧ 1 ≤ kind ∧ kind ≤ 3 ∧ 1 ≤ x ∧ x ≤ 15)
  · have HCB := Lib.hid (HCG.out hbad)
    clear HCG
    have hcase : grpOk vs ls = false ∨ grpOk vs ls = true ∧ (kind < 1 ∨ ¬ kind < 1 ∧ (3 < kind ∨ ¬ 3 < kind ∧ (x < 1 ∨ ¬ x < 1 ∧ 15 < x))) := by
      cases hg : grpOk vs ls with
      | false => exact .inl rfl
      | true =>
        refine .inr ⟨rfl, ?_⟩
        have : ¬ (1 ≤ kind ∧ kind ≤ 3 ∧ 1 ≤ x ∧ x ≤ 15) := fun h => hbad ⟨hg, h⟩
        omega
    clear hbad
    generalize grpOk vs ls = gb at *
    rcases hcase with rfl | ⟨rfl, h1 | ⟨h1, h2 | ⟨h2, h3 | ⟨h3, h4⟩⟩⟩⟩
    all_goals
      go_wp2
      refine bodyPost_ret (v := .tuple #[.agg #[.slice none 0 0, .slice none 0 0], .int .i64 1]) ?_ ?_ ?_
      · exact results_two Try.results23 _ _ (w.heap.size + 1) 24 #[.slice none 0 0, .slice none 0 0] (0, 0) _ rfl (two_set HK1.out _ _) Try.underlying24 rfl (by kernel_rfl)
      · rfl
      · exact HEND.out _ _ HK1.out HB1.out 1 HCB.out
  simp only [Decidable.not_not] at hbad
  obtain ⟨hg, h1, h2, h3, h4⟩ := hbad
  have hl1 := (ok_len hg).1
  have hl2 := (ok_len hg).2
  have HOK := Lib.hid ((grpOk_iff vs ls).1 hg)
  rw [hg]
  have HG := Lib.hid hg
  rw [HVL.out] at hl1
  rw [HLL.out] at hl2
  clear hg HCG
  have g1 : ¬ kind < 1 := by omega
  have g2 : ¬ 3 < kind := by omega
  have g3 : ¬ x < 1 := by omega
  have g4 : ¬ 15 < x := by omega
  have HHV := Lib.hid (has_any VA vn vc vs x w1 (HVR.out.below HB1.out))
  have HHL := Lib.hid (has_any LA ln lc ls x w1 (HLR.out.below HB1.out))
  have HBN := Lib.hid (Below.refl w1.heap.size w1)
  have HCC := Lib.hid (fun W (hW : Below w1.heap.size w1 W) => And.intro ((HK0.out.below hW).cell 0 (.slice VA vn vc) rfl) ((HK0.out.below hW).cell 1 (.slice LA ln lc) rfl))
  have HRR := Lib.hid (fun W (hW : Below w1.heap.size w1 W) => And.intro ((HK1.out.below hW).cell 0 (.slice none 0 0) rfl) (And.intro ((HK1.out.below hW).cell 1 (.slice none 0 0) rfl) (And.intro ((HK1.out.below hW).free 0) ((HK1.out.below hW).free 1))))
  have HBT := Lib.hid (fun W (hW : Below w1.heap.size w1 W) => HB1.out.trans (hW.mono HB1.out.size))
  go_wp2_with fail
  refine HHV.out.mono ?_
  rintro e w' ⟨rfl, rfl⟩
  go_wp2_with fail
  refine HHL.out.mono ?_
  rintro e w' ⟨rfl, rfl⟩
  clear HHV HHL
  have hk : kind = 1 ∨ kind = 2 ∨ kind = 3 := by omega
  rcases hk with rfl | rfl | rfl
  · cases hv0 : hasI vs x with
    | true =>
      have HCB := Lib.hid (show chG vs ls 1 x = ([], [], 7) by rw [chG_1 HG.out h3 h4, hv0]; simp)
      clear hv0
      go_wp2
      refine bodyPost_ret (v := .tuple #[.agg #[.slice none 0 0, .slice none 0 0], .int .i64 7]) ?_ ?_ ?_
      · exact results_two Try.results23 _ _ (w.heap.size + 1) 24 #[.slice none 0 0, .slice none 0 0] (0, 0) _ rfl (two_set HK1.out _ _) Try.underlying24 rfl (by kernel_rfl)
      · rfl
      · exact HEND.out _ _ HK1.out HB1.out 7 HCB.out
    | false =>
      cases hl0 : hasI ls x with
      | true =>
        have HCB := Lib.hid (show chG vs ls 1 x = ([], [], 7) by rw [chG_1 HG.out h3 h4, hl0]; simp)
        clear hv0 hl0
        go_wp2
        refine bodyPost_ret (v := .tuple #[.agg #[.slice none 0 0, .slice none 0 0], .int .i64 7]) ?_ ?_ ?_
        · exact results_two Try.results23 _ _ (w.heap.size + 1) 24 #[.slice none 0 0, .slice none 0 0] (0, 0) _ rfl (two_set HK1.out _ _) Try.underlying24 rfl (by kernel_rfl)
        · rfl
        · exact HEND.out _ _ HK1.out HB1.out 7 HCB.out
      | false =>
        have HCB := Lib.hid (show chG vs ls 1 x = (remN vs x, insN ls x, 0) by rw [chG_1 HG.out h3 h4, hv0, hl0]; simp)
        obtain ⟨n1, hn1⟩ : ∃ n, (remN vs x).length = n := ⟨_, rfl⟩
        have hn1' : n1 ≤ 16 := by rw [← hn1]; exact Nat.le_trans (remN_len _ _) (by rw [HVL.out]; omega)
        have HN1 := Lib.hid hn1
        have HSV := Lib.hid (fun (W0 W : World) (v : Value) (h : OwnI W0 W v (remN vs x)) => show ∃ A c, v = .slice A n1 c ∧ Sln W A n1 c (remN vs x) by have := h.sln (by rw [HN1.out]; omega); rwa [HN1.out] at this)
        clear hn1
        obtain ⟨n2, hn2⟩ : ∃ n, (insN ls x).length = n := ⟨_, rfl⟩
        have hn2' : n2 ≤ 16 := by rw [← hn2, insN_len, HLL.out]; omega
        have HN2 := Lib.hid hn2
        have HXn2 := Lib.hid (show wEnd x (wFold x ls) = insN ls x from with_ins x ls ((upN_iff _ 0).1 HOK.out.2.2.1).2 ((has_not _ _).1 hl0))
        have HSL := Lib.hid (fun (W0 W : World) (v : Value) (h : OwnI W0 W v (wEnd x (wFold x ls))) => show ∃ A c, v = .slice A n2 c ∧ Sln W A n2 c (insN ls x) by rw [HXn2.out] at h; have := h.sln (by rw [HN2.out]; omega); rwa [HN2.out] at this)
        clear hn2
        have HWV := Lib.hid (fun W (hW : Below w.heap.size w W) => refwithout_any VA vn vc vs x W (HVR.out.below hW) (by omega))
        have HWL := Lib.hid (fun W (hW : Below w.heap.size w W) => refwith_any LA ln lc ls x W (HLR.out.below hW) (by omega))
        go_wp2_with fail
        go_region_held3 (fun w' => w'.cell? ⟨w.heap.size, 0, none⟩ = some (.slice VA vn vc) ∧ w'.cell? ⟨w.heap.size, 1, none⟩ = some (.slice LA ln lc)) (first | exact ⟨by assumption, by assumption⟩ | exact ⟨keep2 (by assumption) (by simp), keep2 (by assumption) (by simp)⟩ | go_keep) (first
          | (go_at_call_of 34 (Value.slice VA vn vc); refine (HWV.out _ (HBT.out _ (by first | exact HBN.out | exact HBN.out.drew))).mono ?_; rintro e w5 ⟨v5, rfl, hO⟩; obtain ⟨A1, d1, hv5, hs5⟩ := HSV.out _ _ _ hO; subst hv5; have HS1 := Lib.hid hs5; clear c0 c1; (try (have HS2 := Lib.hid (HS2.out.below ((show Below _ _ _ from by first | exact Below.refl _ _ | exact (Below.refl _ _).drew).trans (hO.1.mono (by exact Nat.le_refl _)))))); have HBN := Lib.hid ((show Below w1.heap.size w1 _ from by first | exact HBN.out | exact HBN.out.drew).trans (hO.1.mono (by exact HBN.out.size))); obtain ⟨c0, c1⟩ := HCC.out _ HBN.out; (try clear r0 r1 f0 f1); obtain ⟨r0, r1, f0, f1⟩ := HRR.out _ HBN.out; clear hO)
          | (go_at_call_of 35 (Value.slice LA ln lc); refine (HWL.out _ (HBT.out _ (by first | exact HBN.out | exact HBN.out.drew))).mono ?_; rintro e w6 ⟨v6, rfl, hO⟩; obtain ⟨A2, d2, hv6, hs6⟩ := HSL.out _ _ _ hO; subst hv6; have HS2 := Lib.hid hs6; clear c0 c1; (try (have HS1 := Lib.hid (HS1.out.below ((show Below _ _ _ from by first | exact Below.refl _ _ | exact (Below.refl _ _).drew).trans (hO.1.mono (by exact Nat.le_refl _)))))); have HBN := Lib.hid ((show Below w1.heap.size w1 _ from by first | exact HBN.out | exact HBN.out.drew).trans (hO.1.mono (by exact HBN.out.size))); obtain ⟨c0, c1⟩ := HCC.out _ HBN.out; (try clear r0 r1 f0 f1); obtain ⟨r0, r1, f0, f1⟩ := HRR.out _ HBN.out; clear hO))
        all_goals
          go_wp2
          refine bodyPost_ret (v := .tuple #[.agg #[.slice A1 n1 d1, .slice A2 n2 d2], .int .i64 0]) ?_ ?_ ?_
          · exact results_two Try.results23 _ _ (w.heap.size + 1) 24 #[.slice A1 n1 d1, .slice A2 n2 d2] (0, 0) _ rfl (two_set (HK1.out.below HBN.out) _ _) Try.underlying24 rfl (by kernel_rfl)
          · rfl
          · exact ch_end (HK1.out.below HBN.out) (HBT.out _ HBN.out) (by omega) HS1.out.1 HS2.out.1 0 HCB.out
  · cases hl0 : hasI ls x with
    | false =>
      have HCB := Lib.hid (show chG vs ls 2 x = ([], [], 7) by rw [chG_2 HG.out h3 h4, hl0]; simp)
      clear hl0
      go_wp2
      refine bodyPost_ret (v := .tuple #[.agg #[.slice none 0 0, .slice none 0 0], .int .i64 7]) ?_ ?_ ?_
      · exact results_two Try.results23 _ _ (w.heap.size + 1) 24 #[.slice none 0 0, .slice none 0 0] (0, 0) _ rfl (two_set HK1.out _ _) Try.underlying24 rfl (by kernel_rfl)
      · rfl
      · exact HEND.out _ _ HK1.out HB1.out 7 HCB.out
    | true =>
      have hv0 : hasI vs x = false := by
        cases hq : hasI vs x with
        | false => rfl
        | true => exact absurd ((has_iff _ _).1 hl0) (HOK.out.2.2.2 x ((has_iff _ _).1 hq))
      have HCB := Lib.hid (show chG vs ls 2 x = (insN vs x, remN ls x, 0) by rw [chG_2 HG.out h3 h4, hl0]; simp)
      obtain ⟨n1, hn1⟩ : ∃ n, (insN vs x).length = n := ⟨_, rfl⟩
      have hn1' : n1 ≤ 16 := by rw [← hn1, insN_len, HVL.out]; omega
      have HN1 := Lib.hid hn1
      have HXn1 := Lib.hid (show wEnd x (wFold x vs) = insN vs x from with_ins x vs ((upN_iff _ 0).1 HOK.out.2.1).2 ((has_not _ _).1 hv0))
      have HSV := Lib.hid (fun (W0 W : World) (v : Value) (h : OwnI W0 W v (wEnd x (wFold x vs))) => show ∃ A c, v = .slice A n1 c ∧ Sln W A n1 c (insN vs x) by rw [HXn1.out] at h; have := h.sln (by rw [HN1.out]; omega); rwa [HN1.out] at this)
      clear hn1
      obtain ⟨n2, hn2⟩ : ∃ n, (remN ls x).length = n := ⟨_, rfl⟩
      have hn2' : n2 ≤ 16 := by rw [← hn2]; exact Nat.le_trans (remN_len _ _) (by rw [HLL.out]; omega)
      have HN2 := Lib.hid hn2
      have HSL := Lib.hid (fun (W0 W : World) (v : Value) (h : OwnI W0 W v (remN ls x)) => show ∃ A c, v = .slice A n2 c ∧ Sln W A n2 c (remN ls x) by have := h.sln (by rw [HN2.out]; omega); rwa [HN2.out] at this)
      clear hn2
      have HWV := Lib.hid (fun W (hW : Below w.heap.size w W) => refwith_any VA vn vc vs x W (HVR.out.below hW) (by omega))
      have HWL := Lib.hid (fun W (hW : Below w.heap.size w W) => refwithout_any LA ln lc ls x W (HLR.out.below hW) (by omega))
      go_wp2_with fail
      go_region_held3 (fun w' => w'.cell? ⟨w.heap.size, 0, none⟩ = some (.slice VA vn vc) ∧ w'.cell? ⟨w.heap.size, 1, none⟩ = some (.slice LA ln lc)) (first | exact ⟨by assumption, by assumption⟩ | exact ⟨keep2 (by assumption) (by simp), keep2 (by assumption) (by simp)⟩ | go_keep) (first
        | (go_at_call_of 35 (Value.slice VA vn vc); refine (HWV.out _ (HBT.out _ (by first | exact HBN.out | exact HBN.out.drew))).mono ?_; rintro e w5 ⟨v5, rfl, hO⟩; obtain ⟨A1, d1, hv5, hs5⟩ := HSV.out _ _ _ hO; subst hv5; have HS1 := Lib.hid hs5; clear c0 c1; (try (have HS2 := Lib.hid (HS2.out.below ((show Below _ _ _ from by first | exact Below.refl _ _ | exact (Below.refl _ _).drew).trans (hO.1.mono (by exact Nat.le_refl _)))))); have HBN := Lib.hid ((show Below w1.heap.size w1 _ from by first | exact HBN.out | exact HBN.out.drew).trans (hO.1.mono (by exact HBN.out.size))); obtain ⟨c0, c1⟩ := HCC.out _ HBN.out; (try clear r0 r1 f0 f1); obtain ⟨r0, r1, f0, f1⟩ := HRR.out _ HBN.out; clear hO)
        | (go_at_call_of 34 (Value.slice LA ln lc); refine (HWL.out _ (HBT.out _ (by first | exact HBN.out | exact HBN.out.drew))).mono ?_; rintro e w6 ⟨v6, rfl, hO⟩; obtain ⟨A2, d2, hv6, hs6⟩ := HSL.out _ _ _ hO; subst hv6; have HS2 := Lib.hid hs6; clear c0 c1; (try (have HS1 := Lib.hid (HS1.out.below ((show Below _ _ _ from by first | exact Below.refl _ _ | exact (Below.refl _ _).drew).trans (hO.1.mono (by exact Nat.le_refl _)))))); have HBN := Lib.hid ((show Below w1.heap.size w1 _ from by first | exact HBN.out | exact HBN.out.drew).trans (hO.1.mono (by exact HBN.out.size))); obtain ⟨c0, c1⟩ := HCC.out _ HBN.out; (try clear r0 r1 f0 f1); obtain ⟨r0, r1, f0, f1⟩ := HRR.out _ HBN.out; clear hO))
      all_goals
        go_wp2
        refine bodyPost_ret (v := .tuple #[.agg #[.slice A1 n1 d1, .slice A2 n2 d2], .int .i64 0]) ?_ ?_ ?_
        · exact results_two Try.results23 _ _ (w.heap.size + 1) 24 #[.slice A1 n1 d1, .slice A2 n2 d2] (0, 0) _ rfl (two_set (HK1.out.below HBN.out) _ _) Try.underlying24 rfl (by kernel_rfl)
        · rfl
        · exact ch_end (HK1.out.below HBN.out) (HBT.out _ HBN.out) (by omega) HS1.out.1 HS2.out.1 0 HCB.out
  · have hvn0 : 0 < vn := by rw [← HVL.out]; exact List.length_pos_iff.2 HOK.out.1
    cases hv0 : hasI vs x with
    | true =>
      have hl0 : hasI ls x = false := by
        cases hq : hasI ls x with
        | false => rfl
        | true => exact absurd ((has_iff _ _).1 hq) (HOK.out.2.2.2 x ((has_iff _ _).1 hv0))
      rw [hl0]
      by_cases hone : vn = 1
      · have HCB := Lib.hid (show chG vs ls 3 x = ([], [], 7) by rw [chG_3 HG.out h3 h4, hv0, hl0, HVL.out, hone]; simp)
        have q1 : ((vn : Int) == 1) = true := by simp [hone]
        clear hv0 hl0
        go_wp2
        refine bodyPost_ret (v := .tuple #[.agg #[.slice none 0 0, .slice none 0 0], .int .i64 7]) ?_ ?_ ?_
        · exact results_two Try.results23 _ _ (w.heap.size + 1) 24 #[.slice none 0 0, .slice none 0 0] (0, 0) _ rfl (two_set HK1.out _ _) Try.underlying24 rfl (by kernel_rfl)
        · rfl
        · exact HEND.out _ _ HK1.out HB1.out 7 HCB.out
      · have HCB := Lib.hid (show chG vs ls 3 x = (remN vs x, remN ls x, 0) by rw [chG_3 HG.out h3 h4, hv0, hl0, HVL.out]; simp [hone])
        have q1 : ((vn : Int) == 1) = false := by simp; omega
        obtain ⟨n1, hn1⟩ : ∃ n, (remN vs x).length = n := ⟨_, rfl⟩
        have hn1' : n1 ≤ 16 := by rw [← hn1]; exact Nat.le_trans (remN_len _ _) (by rw [HVL.out]; omega)
        have HN1 := Lib.hid hn1
        have HSV := Lib.hid (fun (W0 W : World) (v : Value) (h : OwnI W0 W v (remN vs x)) => show ∃ A c, v = .slice A n1 c ∧ Sln W A n1 c (remN vs x) by have := h.sln (by rw [HN1.out]; omega); rwa [HN1.out] at this)
        clear hn1
        obtain ⟨n2, hn2⟩ : ∃ n, (remN ls x).length = n := ⟨_, rfl⟩
        have hn2' : n2 ≤ 16 := by rw [← hn2]; exact Nat.le_trans (remN_len _ _) (by rw [HLL.out]; omega)
        have HN2 := Lib.hid hn2
        have HSL := Lib.hid (fun (W0 W : World) (v : Value) (h : OwnI W0 W v (remN ls x)) => show ∃ A c, v = .slice A n2 c ∧ Sln W A n2 c (remN ls x) by have := h.sln (by rw [HN2.out]; omega); rwa [HN2.out] at this)
        clear hn2
        have HWV := Lib.hid (fun W (hW : Below w.heap.size w W) => refwithout_any VA vn vc vs x W (HVR.out.below hW) (by omega))
        have HWL := Lib.hid (fun W (hW : Below w.heap.size w W) => refwithout_any LA ln lc ls x W (HLR.out.below hW) (by omega))
        go_wp2_with fail
        go_region_held3 (fun w' => w'.cell? ⟨w.heap.size, 0, none⟩ = some (.slice VA vn vc) ∧ w'.cell? ⟨w.heap.size, 1, none⟩ = some (.slice LA ln lc)) (first | exact ⟨by assumption, by assumption⟩ | exact ⟨keep2 (by assumption) (by simp), keep2 (by assumption) (by simp)⟩ | go_keep) (first
          | (go_at_call_of 34 (Value.slice VA vn vc); refine (HWV.out _ (HBT.out _ (by first | exact HBN.out | exact HBN.out.drew))).mono ?_; rintro e w5 ⟨v5, rfl, hO⟩; obtain ⟨A1, d1, hv5, hs5⟩ := HSV.out _ _ _ hO; subst hv5; have HS1 := Lib.hid hs5; clear c0 c1; (try (have HS2 := Lib.hid (HS2.out.below ((show Below _ _ _ from by first | exact Below.refl _ _ | exact (Below.refl _ _).drew).trans (hO.1.mono (by exact Nat.le_refl _)))))); have HBN := Lib.hid ((show Below w1.heap.size w1 _ from by first | exact HBN.out | exact HBN.out.drew).trans (hO.1.mono (by exact HBN.out.size))); obtain ⟨c0, c1⟩ := HCC.out _ HBN.out; (try clear r0 r1 f0 f1); obtain ⟨r0, r1, f0, f1⟩ := HRR.out _ HBN.out; clear hO)
          | (go_at_call_of 34 (Value.slice LA ln lc); refine (HWL.out _ (HBT.out _ (by first | exact HBN.out | exact HBN.out.drew))).mono ?_; rintro e w6 ⟨v6, rfl, hO⟩; obtain ⟨A2, d2, hv6, hs6⟩ := HSL.out _ _ _ hO; subst hv6; have HS2 := Lib.hid hs6; clear c0 c1; (try (have HS1 := Lib.hid (HS1.out.below ((show Below _ _ _ from by first | exact Below.refl _ _ | exact (Below.refl _ _).drew).trans (hO.1.mono (by exact Nat.le_refl _)))))); have HBN := Lib.hid ((show Below w1.heap.size w1 _ from by first | exact HBN.out | exact HBN.out.drew).trans (hO.1.mono (by exact HBN.out.size))); obtain ⟨c0, c1⟩ := HCC.out _ HBN.out; (try clear r0 r1 f0 f1); obtain ⟨r0, r1, f0, f1⟩ := HRR.out _ HBN.out; clear hO))
        all_goals
          go_wp2
          refine bodyPost_ret (v := .tuple #[.agg #[.slice A1 n1 d1, .slice A2 n2 d2], .int .i64 0]) ?_ ?_ ?_
          · exact results_two Try.results23 _ _ (w.heap.size + 1) 24 #[.slice A1 n1 d1, .slice A2 n2 d2] (0, 0) _ rfl (two_set (HK1.out.below HBN.out) _ _) Try.underlying24 rfl (by kernel_rfl)
          · rfl
          · exact ch_end (HK1.out.below HBN.out) (HBT.out _ HBN.out) (by omega) HS1.out.1 HS2.out.1 0 HCB.out
    | false =>
      cases hl0 : hasI ls x with
      | false =>
        have HCB := Lib.hid (show chG vs ls 3 x = ([], [], 7) by rw [chG_3 HG.out h3 h4, hv0, hl0]; simp)
        clear hv0 hl0
        go_wp2
        refine bodyPost_ret (v := .tuple #[.agg #[.slice none 0 0, .slice none 0 0], .int .i64 7]) ?_ ?_ ?_
        · exact results_two Try.results23 _ _ (w.heap.size + 1) 24 #[.slice none 0 0, .slice none 0 0] (0, 0) _ rfl (two_set HK1.out _ _) Try.underlying24 rfl (by kernel_rfl)
        · rfl
        · exact HEND.out _ _ HK1.out HB1.out 7 HCB.out
      | true =>
        have HCB := Lib.hid (show chG vs ls 3 x = (remN vs x, remN ls x, 0) by rw [chG_3 HG.out h3 h4, hv0, hl0]; simp)
        obtain ⟨n1, hn1⟩ : ∃ n, (remN vs x).length = n := ⟨_, rfl⟩
        have hn1' : n1 ≤ 16 := by rw [← hn1]; exact Nat.le_trans (remN_len _ _) (by rw [HVL.out]; omega)
        have HN1 := Lib.hid hn1
        have HSV := Lib.hid (fun (W0 W : World) (v : Value) (h : OwnI W0 W v (remN vs x)) => show ∃ A c, v = .slice A n1 c ∧ Sln W A n1 c (remN vs x) by have := h.sln (by rw [HN1.out]; omega); rwa [HN1.out] at this)
        clear hn1
        obtain ⟨n2, hn2⟩ : ∃ n, (remN ls x).length = n := ⟨_, rfl⟩
        have hn2' : n2 ≤ 16 := by rw [← hn2]; exact Nat.le_trans (remN_len _ _) (by rw [HLL.out]; omega)
        have HN2 := Lib.hid hn2
        have HSL := Lib.hid (fun (W0 W : World) (v : Value) (h : OwnI W0 W v (remN ls x)) => show ∃ A c, v = .slice A n2 c ∧ Sln W A n2 c (remN ls x) by have := h.sln (by rw [HN2.out]; omega); rwa [HN2.out] at this)
        clear hn2
        have HWV := Lib.hid (fun W (hW : Below w.heap.size w W) => refwithout_any VA vn vc vs x W (HVR.out.below hW) (by omega))
        have HWL := Lib.hid (fun W (hW : Below w.heap.size w W) => refwithout_any LA ln lc ls x W (HLR.out.below hW) (by omega))
        go_wp2_with fail
        go_region_held3 (fun w' => w'.cell? ⟨w.heap.size, 0, none⟩ = some (.slice VA vn vc) ∧ w'.cell? ⟨w.heap.size, 1, none⟩ = some (.slice LA ln lc)) (first | exact ⟨by assumption, by assumption⟩ | exact ⟨keep2 (by assumption) (by simp), keep2 (by assumption) (by simp)⟩ | go_keep) (first
          | (go_at_call_of 34 (Value.slice VA vn vc); refine (HWV.out _ (HBT.out _ (by first | exact HBN.out | exact HBN.out.drew))).mono ?_; rintro e w5 ⟨v5, rfl, hO⟩; obtain ⟨A1, d1, hv5, hs5⟩ := HSV.out _ _ _ hO; subst hv5; have HS1 := Lib.hid hs5; clear c0 c1; (try (have HS2 := Lib.hid (HS2.out.below ((show Below _ _ _ from by first | exact Below.refl _ _ | exact (Below.refl _ _).drew).trans (hO.1.mono (by exact Nat.le_refl _)))))); have HBN := Lib.hid ((show Below w1.heap.size w1 _ from by first | exact HBN.out | exact HBN.out.drew).trans (hO.1.mono (by exact HBN.out.size))); obtain ⟨c0, c1⟩ := HCC.out _ HBN.out; (try clear r0 r1 f0 f1); obtain ⟨r0, r1, f0, f1⟩ := HRR.out _ HBN.out; clear hO)
          | (go_at_call_of 34 (Value.slice LA ln lc); refine (HWL.out _ (HBT.out _ (by first | exact HBN.out | exact HBN.out.drew))).mono ?_; rintro e w6 ⟨v6, rfl, hO⟩; obtain ⟨A2, d2, hv6, hs6⟩ := HSL.out _ _ _ hO; subst hv6; have HS2 := Lib.hid hs6; clear c0 c1; (try (have HS1 := Lib.hid (HS1.out.below ((show Below _ _ _ from by first | exact Below.refl _ _ | exact (Below.refl _ _).drew).trans (hO.1.mono (by exact Nat.le_refl _)))))); have HBN := Lib.hid ((show Below w1.heap.size w1 _ from by first | exact HBN.out | exact HBN.out.drew).trans (hO.1.mono (by exact HBN.out.size))); obtain ⟨c0, c1⟩ := HCC.out _ HBN.out; (try clear r0 r1 f0 f1); obtain ⟨r0, r1, f0, f1⟩ := HRR.out _ HBN.out; clear hO))
        all_goals
          go_wp2
          refine bodyPost_ret (v := .tuple #[.agg #[.slice A1 n1 d1, .slice A2 n2 d2], .int .i64 0]) ?_ ?_ ?_
          · exact results_two Try.results23 _ _ (w.heap.size + 1) 24 #[.slice A1 n1 d1, .slice A2 n2 d2] (0, 0) _ rfl (two_set (HK1.out.below HBN.out) _ _) Try.underlying24 rfl (by kernel_rfl)
          · rfl
          · exact ch_end (HK1.out.below HBN.out) (HBT.out _ HBN.out) (by omega) HS1.out.1 HS2.out.1 0 HCB.out
end Go.Proofs.Ytcnligkndficoaa.Qu
