/-
  Layer 13: Beside of the document's own. Conditions: the groups can be read.
-/
import Derived.Test.YtnmmpiddmckghaaDoorSeE
import Derived.BigQuiet
import Derived.Deep.QuietTactic
import Derived.Deep.RegionWith
namespace Go.Proofs.YtnmmpiddmckghaaDoor.Se
open Go.RowKit Go.Proofs.YtnmmpiddmckghaaDoor.Qu Go.Proofs.YtnmmpiddmckghaaDoor.Fld
set_option linter.unusedVariables false

set_option maxRecDepth 100000 in
set_option maxHeartbeats 6400000 in
theorem rbeside_any (r : Int) (A : Option Addr) (n c : Nat) (gs : List Int) (x : Int) (w : World) (hr : RdI w A n gs) (hm0 : -9223372036854775808 ≤ x ∧ x ≤ 9223372036854775807) :
    Calls Tryd.prog 13 #[layV r A n c, .int .i64 x] w (NewI w (besL r gs x)) := by
  have hb := alloc_below w (layO r A n c)
  have hr' := RdI.below hr hb
  have HK := layO_blk w r A n c
  unfold layO at *
  obtain ⟨W, hW⟩ : ∃ W, w.alloc (.cells #[.int .i64 r, .slice A n c] 24) = W := ⟨_, rfl⟩
  rw [hW] at hb hr' HK
  have HW := Lib.hid hW
  have HB := Lib.hid hb
  have HC1 := Lib.hid (fun (w2 : World) (h2 : RdI w2 A n gs) => rcount_any r A n c gs w2 h2)
  have HRD := Lib.hid (fun (w2 : World) (h2 : Below W.heap.size W w2) => hr'.below h2)
  have HX := Lib.hid (fun (w2 : World) (h2 : Below W.heap.size W w2) => (⟨(HK.below h2).cell 0 _ rfl, (HK.below h2).cell 1 _ rfl⟩ : w2.cell? ⟨w.heap.size, 0, none⟩ = some (.int .i64 r) ∧ w2.cell? ⟨w.heap.size, 1, none⟩ = some (.slice A n c)))
  have HBW := Lib.hid (Below.refl W.heap.size W)
  have HQ := Lib.hid (show besL r gs x = if 0 ≤ x ∧ x < cntS r gs then (if fst gs x < x then [x - 1] else []) ++ (if x + 1 < bhd gs x then [x + 1] else []) else [] from rfl)
  have HDOC := Lib.hid (fun h0 h1 => besL_doc (r := r) (gs := gs) (n := x) h0 h1)
  have HLAY := Lib.hid (fun h0 h1 => lay_cnt (r := r) (gs := gs) (n := x) h0 h1)
  have hcb := (cnt_bd r gs).2
  have HBC := Lib.hid (fun h0 h1 => bhd_cnt (r := r) (gs := gs) (n := x) h0 h1)
  have hgl := hr.1
  clear hr hr' HK hb hW
  generalize besL r gs x = L at *
  obtain ⟨K, hK⟩ : ∃ K, cntS r gs = K := ⟨_, rfl⟩
  rw [hK] at HC1 HQ HDOC HLAY HBC hcb
  obtain ⟨c0, c1⟩ := HX.out _ (Below.refl _ _)
  by_cases h0 : x < 0
  · have HF := Lib.hid (show L = [] by rw [HQ.out, if_neg (by omega)])
    clear HQ HDOC HLAY HC1
    unfold layV at *
    go_enter Tryd.func13, Tryd.ntmps13
    go_wp2_with (first | rw [HW.out] | fail)
    go_ret
    exact ⟨_, rfl, by rw [HF.out]; exact OwnI.nil _ _ HB.out⟩
  by_cases h1 : K ≤ x
  · have HF := Lib.hid (show L = [] by rw [HQ.out, if_neg (by omega)])
    clear HQ HDOC HLAY
    unfold layV at *
    go_enter Tryd.func13, Tryd.ntmps13
    go_wp2_with (first | rw [HW.out] | fail)
    refine (HC1.out _ (HRD.out _ HBW.out)).mono ?_
    rintro e w2 ⟨rfl, hb2⟩
    have HB2 := Lib.hid (HB.out.trans (hb2.mono HB.out.size))
    clear hb2
    go_wp2
    go_ret
    exact ⟨_, rfl, by rw [HF.out]; exact OwnI.nil _ _ HB2.out⟩
  have hx0 : 0 ≤ x := by omega
  have hx1 : x < K := by omega
  obtain ⟨hl, _⟩ := HLAY.out hx0 (by omega)
  obtain ⟨k1, k2, k3, k4, k5, k6, k7⟩ := lay_of hl
  have HG := Lib.hid (fun (y : Int) (hy0 : 0 ≤ y) (hy1 : y ≤ 1000) (w2 : World) (h2 : RdI w2 A n gs) => rgroup_any r A n c gs y w2 h2 k5 (by omega) k7 hy0 hy1)
  obtain ⟨d1, d2⟩ := HDOC.out hx0 (by omega)
  obtain ⟨f1, f2, f3, f4, f5⟩ := fst_bd k5 k7 hx0
  have f9 := HBC.out hx0 (by omega)
  have HF := Lib.hid (show L = (if fst gs x < x then [x - 1] else []) ++ (if x + 1 < bhd gs x then [x + 1] else []) by rw [HQ.out, if_pos ⟨by omega, by omega⟩])
  have HG0 := Lib.hid (HG.out x (by omega) (by omega))
  have HG1 := Lib.hid (fun h => HG.out (x - 1) h (by omega))
  have HG2 := Lib.hid (HG.out (x + 1) (by omega) (by omega))
  have D1 := Lib.hid d1
  have D2 := Lib.hid d2
  clear HQ HDOC HLAY HBC HG hl k5 d1 d2 f4 f5 hK
  generalize fst gs x = F at *
  generalize bhd gs x = B at *
  generalize grp gs x = g0 at *
  generalize grp gs (x - 1) = g1 at *
  generalize grp gs (x + 1) = g2 at *
  have e1 : IntKind.i64.wrap (x - 1) = x - 1 := IntWalk.i64_in _ (by omega)
  have e2 : IntKind.i64.wrap (x + 1) = x + 1 := IntWalk.i64_in _ (by omega)
  unfold layV at *
  go_enter Tryd.func13, Tryd.ntmps13
  go_wp2_with (first | rw [HW.out] | fail)
  refine (HC1.out _ (HRD.out _ HBW.out)).mono ?_
  rintro e w2 ⟨rfl, hb2⟩
  have HBW := Lib.hid (HBW.out.trans hb2)
  clear hb2 c0 c1
  obtain ⟨c0, c1⟩ := HX.out _ HBW.out
  go_wp2_with fail
  by_cases h2 : 0 < x
  · have q2 : decide (0 < x) = true := by simp [h2]
    have HGa := Lib.hid (HG1.out (by omega))
    go_region_held3 (fun w' => w'.cell? ⟨w.heap.size, 0, none⟩ = some (.int .i64 r) ∧ w'.cell? ⟨w.heap.size, 1, none⟩ = some (.slice A n c)) (first | exact ⟨by assumption, by assumption⟩ | go_keep) (first | (have hh := CA; go_at_call 27; refine (HG0.out _ (HRD.out _ (by first | exact HBW.out | exact HBW.out.drew))).mono ?_; rintro e w2 ⟨rfl, hb2⟩; have HBW := Lib.hid ((show Below W.heap.size W _ from by first | exact HBW.out | exact HBW.out.drew).trans (hb2.mono (by exact HBW.out.size))); clear c0 c1 hb2; obtain ⟨c0, c1⟩ := HX.out _ HBW.out; have CB := trivial) | (go_at_call 27; refine (HGa.out _ (HRD.out _ (by first | exact HBW.out | exact HBW.out.drew))).mono ?_; rintro e w2 ⟨rfl, hb2⟩; have HBW := Lib.hid ((show Below W.heap.size W _ from by first | exact HBW.out | exact HBW.out.drew).trans (hb2.mono (by exact HBW.out.size))); clear c0 c1 hb2; obtain ⟨c0, c1⟩ := HX.out _ HBW.out; have CA := trivial))
    all_goals
      have HO := Lib.hid (OwnI.nil w _ (HB.out.trans (HBW.out.mono HB.out.size)))
      cases hq1 : (g1 == g0) with
      | true =>
        have hf1 : F < x := by have := D1.out; rw [q2, show decide (g1 = g0) = true by simpa using hq1] at this; simpa using this.symm
        go_wp2_with (at_builtin; refine wpList_append_ints rfl _ _ rfl w (.slice none 0 0) [] rfl (HO.out.below (alloc_below _ _)) _ 1 1 [x - 1] rfl (fun h => by cases h) (rdI_one _ (x - 1)) (by simp) ?_; intro v3 w3 hO3 hg3; have HO3 := Lib.hid hO3; have HBW := Lib.hid ((HBW.out.trans ((alloc_below _ _).mono HBW.out.size)).grown hg3 (HBW.out.trans ((alloc_below _ _).mono HBW.out.size)).size (fun q hq => by cases hq)); clear hO3 hg3 c0 c1; obtain ⟨c0, c1⟩ := HX.out _ HBW.out)
        by_cases h3 : x + 1 < K
        · have q3 : decide (x + 1 < K) = true := by simp [h3]
          go_region_held3 (fun w' => w'.cell? ⟨w.heap.size, 0, none⟩ = some (.int .i64 r) ∧ w'.cell? ⟨w.heap.size, 1, none⟩ = some (.slice A n c)) (first | exact ⟨by assumption, by assumption⟩ | go_keep) (first | (have hh := CE; go_at_call 27; refine (HG0.out _ (HRD.out _ (by first | exact HBW.out | exact HBW.out.drew))).mono ?_; rintro e w2 ⟨rfl, hb2⟩; have HOz := Lib.hid ((show OwnI w _ _ _ from by first | exact HOz.out | exact HOz.out.below (below_dr _ 1)).below hb2); have HBW := Lib.hid ((show Below W.heap.size W _ from by first | exact HBW.out | exact HBW.out.drew).trans (hb2.mono (by exact HBW.out.size))); clear c0 c1 hb2; obtain ⟨c0, c1⟩ := HX.out _ HBW.out; have CF := trivial) | (have hh := CD; go_at_call 27; refine (HG2.out _ (HRD.out _ (by first | exact HBW.out | exact HBW.out.drew))).mono ?_; rintro e w2 ⟨rfl, hb2⟩; have HOz := Lib.hid ((show OwnI w _ _ _ from by first | exact HOz.out | exact HOz.out.below (below_dr _ 1)).below hb2); have HBW := Lib.hid ((show Below W.heap.size W _ from by first | exact HBW.out | exact HBW.out.drew).trans (hb2.mono (by exact HBW.out.size))); clear c0 c1 hb2; obtain ⟨c0, c1⟩ := HX.out _ HBW.out; have CE := trivial) | (go_at_call 17; refine (HC1.out _ (HRD.out _ (by first | exact HBW.out | exact HBW.out.drew))).mono ?_; rintro e w2 ⟨rfl, hb2⟩; have HOz := Lib.hid ((show OwnI w _ v3 ([] ++ [x - 1]) from by first | exact HO3.out | exact HO3.out.below (below_dr _ 1)).below hb2); have HBW := Lib.hid ((show Below W.heap.size W _ from by first | exact HBW.out | exact HBW.out.drew).trans (hb2.mono (by exact HBW.out.size))); clear c0 c1 hb2; obtain ⟨c0, c1⟩ := HX.out _ HBW.out; have CD := trivial))
          all_goals
            cases hq2 : (g2 == g0) with
            | true =>
              have hf2 : x + 1 < B := by have := D2.out; rw [q3, show decide (g2 = g0) = true by simpa using hq2] at this; simpa using this.symm
              have HF1 := Lib.hid (show L = ([] ++ [x - 1]) ++ [x + 1] by rw [HF.out, if_pos (show F < x by omega), if_pos (show x + 1 < B by omega)]; try rfl)
              clear HF
              go_wp2_with (at_builtin; refine wpList_append_ints rfl _ _ rfl w v3 ([] ++ [x - 1]) rfl (HOz.out.below (alloc_below _ _)) _ 1 1 [x + 1] rfl (fun h => by cases h) (rdI_one _ (x + 1)) (by simp) ?_; intro v4 w4 hO4 hg4; have HO4 := Lib.hid hO4; clear hO4 hg4)
              go_ret
              exact ⟨_, rfl, by rw [HF1.out]; exact HO4.out⟩
            | false =>
              have hf2 : ¬ x + 1 < B := by have := D2.out; rw [q3, show decide (g2 = g0) = false by simpa using hq2] at this; simpa using this.symm
              have HF1 := Lib.hid (show L = ([] ++ [x - 1]) by rw [HF.out, if_pos (show F < x by omega), if_neg (show ¬ x + 1 < B by omega)]; try rfl)
              clear HF
              go_wp2
              go_ret
              exact ⟨_, rfl, by rw [HF1.out]; exact HOz.out⟩
        · have q3 : decide (x + 1 < K) = false := by simp [h3]
          have hf2 : ¬ x + 1 < B := by omega
          have HF1 := Lib.hid (show L = ([] ++ [x - 1]) by rw [HF.out, if_pos (show F < x by omega), if_neg (show ¬ x + 1 < B by omega)]; try rfl)
          clear HF
          refine wp_region_any (by kernel_rfl) ?_
          try (change wpAny _ _ _ _ _ _ _ (World.drew _))
          refine wpAny_take (i := 0) (v := .int .i64 x) rfl (by kernel_rfl) (by kernel_rfl) (by kernel_rfl) (fun _ _ _ h => h) (Or.inl ⟨by kernel_rfl, fun w => by go_simp⟩) ?_
          refine wpAny_take (i := 1) (v := .int .i64 (x + 1)) rfl (by kernel_rfl) (by kernel_rfl) (by kernel_rfl) (fun _ _ _ h => h) (Or.inl ⟨by kernel_rfl, fun w => by go_simp⟩) ?_
          refine wpAny_ready (rs := [2]) (by kernel_rfl) (by simp) ?_
          refine AllReady.cons rfl (fun K hK => ?_) AllReady.nil
          go_simp
          refine hK _ _ ?_
          clear hK K
          refine wpAny_ready (rs := [3]) (by kernel_rfl) (by simp) ?_
          refine AllReady.cons rfl (fun K hK => ?_) AllReady.nil
          go_simp
          go_wp2_with ((go_at_call 17; refine (HC1.out _ (HRD.out _ (by first | exact HBW.out | exact HBW.out.drew))).mono ?_; rintro e w2 ⟨rfl, hb2⟩; have HOz := Lib.hid ((show OwnI w _ v3 ([] ++ [x - 1]) from by first | exact HO3.out | exact HO3.out.below (below_dr _ 1)).below hb2); have HBW := Lib.hid ((show Below W.heap.size W _ from by first | exact HBW.out | exact HBW.out.drew).trans (hb2.mono (by exact HBW.out.size))); clear c0 c1 hb2; obtain ⟨c0, c1⟩ := HX.out _ HBW.out; have CD := trivial))
          try (refine hK _ _ ?_; clear hK K)
          refine wpAny_take (i := 4) (v := .bool false) rfl (by kernel_rfl) (by kernel_rfl) (by kernel_rfl) (fun _ _ _ h => h) (Or.inl ⟨by kernel_rfl, fun w => by go_simp⟩) ?_
          refine wpAny_take (i := 5) (v := .bool false) rfl (by kernel_rfl) (by kernel_rfl) (by kernel_rfl) (fun _ _ _ h => h) (Or.inl ⟨by kernel_rfl, fun w => by go_simp⟩) ?_
          refine wpAny_take (i := 6) (v := undef) rfl (by kernel_rfl) (by kernel_rfl) (by kernel_rfl) (fun _ _ _ h => h) (Or.inr ⟨by kernel_rfl, rfl⟩) ?_
          refine wpAny_take (i := 7) (v := undef) rfl (by kernel_rfl) (by kernel_rfl) (by kernel_rfl) (fun _ _ _ h => h) (Or.inr ⟨by kernel_rfl, rfl⟩) ?_
          refine wpAny_take (i := 8) (v := undef) rfl (by kernel_rfl) (by kernel_rfl) (by kernel_rfl) (fun _ _ _ h => h) (Or.inr ⟨by kernel_rfl, rfl⟩) ?_
          refine wpAny_take (i := 9) (v := undef) rfl (by kernel_rfl) (by kernel_rfl) (by kernel_rfl) (fun _ _ _ h => h) (Or.inr ⟨by kernel_rfl, rfl⟩) ?_
          refine wpAny_take (i := 10) (v := undef) rfl (by kernel_rfl) (by kernel_rfl) (by kernel_rfl) (fun _ _ _ h => h) (Or.inr ⟨by kernel_rfl, rfl⟩) ?_
          refine wpAny_take (i := 11) (v := undef) rfl (by kernel_rfl) (by kernel_rfl) (by kernel_rfl) (fun _ _ _ h => h) (Or.inr ⟨by kernel_rfl, rfl⟩) ?_
          refine wpAny_take (i := 12) (v := undef) rfl (by kernel_rfl) (by kernel_rfl) (by kernel_rfl) (fun _ _ _ h => h) (Or.inr ⟨by kernel_rfl, rfl⟩) ?_
          refine wpAny_take (i := 13) (v := undef) rfl (by kernel_rfl) (by kernel_rfl) (by kernel_rfl) (fun _ _ _ h => h) (Or.inr ⟨by kernel_rfl, rfl⟩) ?_
          refine wpAny_take (i := 14) (v := .bool false) rfl (by kernel_rfl) (by kernel_rfl) (by kernel_rfl) (fun _ _ _ h => h) (Or.inl ⟨by kernel_rfl, fun w => by go_simp⟩) ?_
          refine wpAny_done (by kernel_rfl) ?_ _
          go_simp
          go_wp2
          go_ret
          exact ⟨_, rfl, by rw [HF1.out]; exact HOz.out⟩
      | false =>
        have hf1 : ¬ F < x := by have := D1.out; rw [q2, show decide (g1 = g0) = false by simpa using hq1] at this; simpa using this.symm
        go_wp2_with fail
        by_cases h3 : x + 1 < K
        · have q3 : decide (x + 1 < K) = true := by simp [h3]
          go_region_held3 (fun w' => w'.cell? ⟨w.heap.size, 0, none⟩ = some (.int .i64 r) ∧ w'.cell? ⟨w.heap.size, 1, none⟩ = some (.slice A n c)) (first | exact ⟨by assumption, by assumption⟩ | go_keep) (first | (have hh := CE; go_at_call 27; refine (HG0.out _ (HRD.out _ (by first | exact HBW.out | exact HBW.out.drew))).mono ?_; rintro e w2 ⟨rfl, hb2⟩; have HOz := Lib.hid ((show OwnI w _ _ _ from by first | exact HOz.out | exact HOz.out.below (below_dr _ 1)).below hb2); have HBW := Lib.hid ((show Below W.heap.size W _ from by first | exact HBW.out | exact HBW.out.drew).trans (hb2.mono (by exact HBW.out.size))); clear c0 c1 hb2; obtain ⟨c0, c1⟩ := HX.out _ HBW.out; have CF := trivial) | (have hh := CD; go_at_call 27; refine (HG2.out _ (HRD.out _ (by first | exact HBW.out | exact HBW.out.drew))).mono ?_; rintro e w2 ⟨rfl, hb2⟩; have HOz := Lib.hid ((show OwnI w _ _ _ from by first | exact HOz.out | exact HOz.out.below (below_dr _ 1)).below hb2); have HBW := Lib.hid ((show Below W.heap.size W _ from by first | exact HBW.out | exact HBW.out.drew).trans (hb2.mono (by exact HBW.out.size))); clear c0 c1 hb2; obtain ⟨c0, c1⟩ := HX.out _ HBW.out; have CE := trivial) | (go_at_call 17; refine (HC1.out _ (HRD.out _ (by first | exact HBW.out | exact HBW.out.drew))).mono ?_; rintro e w2 ⟨rfl, hb2⟩; have HOz := Lib.hid ((show OwnI w _ (.slice none 0 0) [] from by first | exact HO.out | exact HO.out.below (below_dr _ 1)).below hb2); have HBW := Lib.hid ((show Below W.heap.size W _ from by first | exact HBW.out | exact HBW.out.drew).trans (hb2.mono (by exact HBW.out.size))); clear c0 c1 hb2; obtain ⟨c0, c1⟩ := HX.out _ HBW.out; have CD := trivial))
          all_goals
            cases hq2 : (g2 == g0) with
            | true =>
              have hf2 : x + 1 < B := by have := D2.out; rw [q3, show decide (g2 = g0) = true by simpa using hq2] at this; simpa using this.symm
              have HF1 := Lib.hid (show L = [] ++ [x + 1] by rw [HF.out, if_neg (show ¬ F < x by omega), if_pos (show x + 1 < B by omega)]; try rfl)
              clear HF
              go_wp2_with (at_builtin; refine wpList_append_ints rfl _ _ rfl w (.slice none 0 0) [] rfl (HOz.out.below (alloc_below _ _)) _ 1 1 [x + 1] rfl (fun h => by cases h) (rdI_one _ (x + 1)) (by simp) ?_; intro v4 w4 hO4 hg4; have HO4 := Lib.hid hO4; clear hO4 hg4)
              go_ret
              exact ⟨_, rfl, by rw [HF1.out]; exact HO4.out⟩
            | false =>
              have hf2 : ¬ x + 1 < B := by have := D2.out; rw [q3, show decide (g2 = g0) = false by simpa using hq2] at this; simpa using this.symm
              have HF1 := Lib.hid (show L = [] by rw [HF.out, if_neg (show ¬ F < x by omega), if_neg (show ¬ x + 1 < B by omega)]; try rfl)
              clear HF
              go_wp2
              go_ret
              exact ⟨_, rfl, by rw [HF1.out]; exact HOz.out⟩
        · have q3 : decide (x + 1 < K) = false := by simp [h3]
          have hf2 : ¬ x + 1 < B := by omega
          have HF1 := Lib.hid (show L = [] by rw [HF.out, if_neg (show ¬ F < x by omega), if_neg (show ¬ x + 1 < B by omega)]; try rfl)
          clear HF
          refine wp_region_any (by kernel_rfl) ?_
          try (change wpAny _ _ _ _ _ _ _ (World.drew _))
          refine wpAny_take (i := 0) (v := .int .i64 x) rfl (by kernel_rfl) (by kernel_rfl) (by kernel_rfl) (fun _ _ _ h => h) (Or.inl ⟨by kernel_rfl, fun w => by go_simp⟩) ?_
          refine wpAny_take (i := 1) (v := .int .i64 (x + 1)) rfl (by kernel_rfl) (by kernel_rfl) (by kernel_rfl) (fun _ _ _ h => h) (Or.inl ⟨by kernel_rfl, fun w => by go_simp⟩) ?_
          refine wpAny_ready (rs := [2]) (by kernel_rfl) (by simp) ?_
          refine AllReady.cons rfl (fun K hK => ?_) AllReady.nil
          go_simp
          refine hK _ _ ?_
          clear hK K
          refine wpAny_ready (rs := [3]) (by kernel_rfl) (by simp) ?_
          refine AllReady.cons rfl (fun K hK => ?_) AllReady.nil
          go_simp
          go_wp2_with ((go_at_call 17; refine (HC1.out _ (HRD.out _ (by first | exact HBW.out | exact HBW.out.drew))).mono ?_; rintro e w2 ⟨rfl, hb2⟩; have HOz := Lib.hid ((show OwnI w _ (.slice none 0 0) [] from by first | exact HO.out | exact HO.out.below (below_dr _ 1)).below hb2); have HBW := Lib.hid ((show Below W.heap.size W _ from by first | exact HBW.out | exact HBW.out.drew).trans (hb2.mono (by exact HBW.out.size))); clear c0 c1 hb2; obtain ⟨c0, c1⟩ := HX.out _ HBW.out; have CD := trivial))
          try (refine hK _ _ ?_; clear hK K)
          refine wpAny_take (i := 4) (v := .bool false) rfl (by kernel_rfl) (by kernel_rfl) (by kernel_rfl) (fun _ _ _ h => h) (Or.inl ⟨by kernel_rfl, fun w => by go_simp⟩) ?_
          refine wpAny_take (i := 5) (v := .bool false) rfl (by kernel_rfl) (by kernel_rfl) (by kernel_rfl) (fun _ _ _ h => h) (Or.inl ⟨by kernel_rfl, fun w => by go_simp⟩) ?_
          refine wpAny_take (i := 6) (v := undef) rfl (by kernel_rfl) (by kernel_rfl) (by kernel_rfl) (fun _ _ _ h => h) (Or.inr ⟨by kernel_rfl, rfl⟩) ?_
          refine wpAny_take (i := 7) (v := undef) rfl (by kernel_rfl) (by kernel_rfl) (by kernel_rfl) (fun _ _ _ h => h) (Or.inr ⟨by kernel_rfl, rfl⟩) ?_
          refine wpAny_take (i := 8) (v := undef) rfl (by kernel_rfl) (by kernel_rfl) (by kernel_rfl) (fun _ _ _ h => h) (Or.inr ⟨by kernel_rfl, rfl⟩) ?_
          refine wpAny_take (i := 9) (v := undef) rfl (by kernel_rfl) (by kernel_rfl) (by kernel_rfl) (fun _ _ _ h => h) (Or.inr ⟨by kernel_rfl, rfl⟩) ?_
          refine wpAny_take (i := 10) (v := undef) rfl (by kernel_rfl) (by kernel_rfl) (by kernel_rfl) (fun _ _ _ h => h) (Or.inr ⟨by kernel_rfl, rfl⟩) ?_
          refine wpAny_take (i := 11) (v := undef) rfl (by kernel_rfl) (by kernel_rfl) (by kernel_rfl) (fun _ _ _ h => h) (Or.inr ⟨by kernel_rfl, rfl⟩) ?_
          refine wpAny_take (i := 12) (v := undef) rfl (by kernel_rfl) (by kernel_rfl) (by kernel_rfl) (fun _ _ _ h => h) (Or.inr ⟨by kernel_rfl, rfl⟩) ?_
          refine wpAny_take (i := 13) (v := undef) rfl (by kernel_rfl) (by kernel_rfl) (by kernel_rfl) (fun _ _ _ h => h) (Or.inr ⟨by kernel_rfl, rfl⟩) ?_
          refine wpAny_take (i := 14) (v := .bool false) rfl (by kernel_rfl) (by kernel_rfl) (by kernel_rfl) (fun _ _ _ h => h) (Or.inl ⟨by kernel_rfl, fun w => by go_simp⟩) ?_
          refine wpAny_done (by kernel_rfl) ?_ _
          go_simp
          go_wp2
          go_ret
          exact ⟨_, rfl, by rw [HF1.out]; exact HOz.out⟩
  · have q2 : decide (0 < x) = false := by simp [h2]
    have hf1 : ¬ F < x := by omega
    go_quiet (fail)
    obtain ⟨w9, hw9⟩ : ∃ w9, w2.drewN nq = w9 := ⟨_, rfl⟩
    have HBW := Lib.hid (show Below W.heap.size W w9 by rw [← hw9]; exact HBW.out.trans ((below_dr w2 nq).mono HBW.out.size))
    rw [hw9]
    clear c0 c1 hw9
    obtain ⟨c0, c1⟩ := HX.out _ HBW.out
    have HO := Lib.hid (OwnI.nil w _ (HB.out.trans (HBW.out.mono HB.out.size)))
    go_wp2_with fail
    by_cases h3 : x + 1 < K
    · have q3 : decide (x + 1 < K) = true := by simp [h3]
      go_region_held3 (fun w' => w'.cell? ⟨w.heap.size, 0, none⟩ = some (.int .i64 r) ∧ w'.cell? ⟨w.heap.size, 1, none⟩ = some (.slice A n c)) (first | exact ⟨by assumption, by assumption⟩ | go_keep) (first | (have hh := CE; go_at_call 27; refine (HG0.out _ (HRD.out _ (by first | exact HBW.out | exact HBW.out.drew))).mono ?_; rintro e w2 ⟨rfl, hb2⟩; have HOz := Lib.hid ((show OwnI w _ _ _ from by first | exact HOz.out | exact HOz.out.below (below_dr _ 1)).below hb2); have HBW := Lib.hid ((show Below W.heap.size W _ from by first | exact HBW.out | exact HBW.out.drew).trans (hb2.mono (by exact HBW.out.size))); clear c0 c1 hb2; obtain ⟨c0, c1⟩ := HX.out _ HBW.out; have CF := trivial) | (have hh := CD; go_at_call 27; refine (HG2.out _ (HRD.out _ (by first | exact HBW.out | exact HBW.out.drew))).mono ?_; rintro e w2 ⟨rfl, hb2⟩; have HOz := Lib.hid ((show OwnI w _ _ _ from by first | exact HOz.out | exact HOz.out.below (below_dr _ 1)).below hb2); have HBW := Lib.hid ((show Below W.heap.size W _ from by first | exact HBW.out | exact HBW.out.drew).trans (hb2.mono (by exact HBW.out.size))); clear c0 c1 hb2; obtain ⟨c0, c1⟩ := HX.out _ HBW.out; have CE := trivial) | (go_at_call 17; refine (HC1.out _ (HRD.out _ (by first | exact HBW.out | exact HBW.out.drew))).mono ?_; rintro e w2 ⟨rfl, hb2⟩; have HOz := Lib.hid ((show OwnI w _ (.slice none 0 0) [] from by first | exact HO.out | exact HO.out.below (below_dr _ 1)).below hb2); have HBW := Lib.hid ((show Below W.heap.size W _ from by first | exact HBW.out | exact HBW.out.drew).trans (hb2.mono (by exact HBW.out.size))); clear c0 c1 hb2; obtain ⟨c0, c1⟩ := HX.out _ HBW.out; have CD := trivial))
      all_goals
        cases hq2 : (g2 == g0) with
        | true =>
          have hf2 : x + 1 < B := by have := D2.out; rw [q3, show decide (g2 = g0) = true by simpa using hq2] at this; simpa using this.symm
          have HF1 := Lib.hid (show L = [] ++ [x + 1] by rw [HF.out, if_neg (show ¬ F < x by omega), if_pos (show x + 1 < B by omega)]; try rfl)
          clear HF
          go_wp2_with (at_builtin; refine wpList_append_ints rfl _ _ rfl w (.slice none 0 0) [] rfl (HOz.out.below (alloc_below _ _)) _ 1 1 [x + 1] rfl (fun h => by cases h) (rdI_one _ (x + 1)) (by simp) ?_; intro v4 w4 hO4 hg4; have HO4 := Lib.hid hO4; clear hO4 hg4)
          go_ret
          exact ⟨_, rfl, by rw [HF1.out]; exact HO4.out⟩
        | false =>
          have hf2 : ¬ x + 1 < B := by have := D2.out; rw [q3, show decide (g2 = g0) = false by simpa using hq2] at this; simpa using this.symm
          have HF1 := Lib.hid (show L = [] by rw [HF.out, if_neg (show ¬ F < x by omega), if_neg (show ¬ x + 1 < B by omega)]; try rfl)
          clear HF
          go_wp2
          go_ret
          exact ⟨_, rfl, by rw [HF1.out]; exact HOz.out⟩
    · have q3 : decide (x + 1 < K) = false := by simp [h3]
      have hf2 : ¬ x + 1 < B := by omega
      have HF1 := Lib.hid (show L = [] by rw [HF.out, if_neg (show ¬ F < x by omega), if_neg (show ¬ x + 1 < B by omega)]; try rfl)
      clear HF
      refine wp_region_any (by kernel_rfl) ?_
      try (change wpAny _ _ _ _ _ _ _ (World.drew _))
      refine wpAny_take (i := 0) (v := .int .i64 x) rfl (by kernel_rfl) (by kernel_rfl) (by kernel_rfl) (fun _ _ _ h => h) (Or.inl ⟨by kernel_rfl, fun w => by go_simp⟩) ?_
      refine wpAny_take (i := 1) (v := .int .i64 (x + 1)) rfl (by kernel_rfl) (by kernel_rfl) (by kernel_rfl) (fun _ _ _ h => h) (Or.inl ⟨by kernel_rfl, fun w => by go_simp⟩) ?_
      refine wpAny_ready (rs := [2]) (by kernel_rfl) (by simp) ?_
      refine AllReady.cons rfl (fun K hK => ?_) AllReady.nil
      go_simp
      refine hK _ _ ?_
      clear hK K
      refine wpAny_ready (rs := [3]) (by kernel_rfl) (by simp) ?_
      refine AllReady.cons rfl (fun K hK => ?_) AllReady.nil
      go_simp
      go_wp2_with ((go_at_call 17; refine (HC1.out _ (HRD.out _ (by first | exact HBW.out | exact HBW.out.drew))).mono ?_; rintro e w2 ⟨rfl, hb2⟩; have HOz := Lib.hid ((show OwnI w _ (.slice none 0 0) [] from by first | exact HO.out | exact HO.out.below (below_dr _ 1)).below hb2); have HBW := Lib.hid ((show Below W.heap.size W _ from by first | exact HBW.out | exact HBW.out.drew).trans (hb2.mono (by exact HBW.out.size))); clear c0 c1 hb2; obtain ⟨c0, c1⟩ := HX.out _ HBW.out; have CD := trivial))
      try (refine hK _ _ ?_; clear hK K)
      refine wpAny_take (i := 4) (v := .bool false) rfl (by kernel_rfl) (by kernel_rfl) (by kernel_rfl) (fun _ _ _ h => h) (Or.inl ⟨by kernel_rfl, fun w => by go_simp⟩) ?_
      refine wpAny_take (i := 5) (v := .bool false) rfl (by kernel_rfl) (by kernel_rfl) (by kernel_rfl) (fun _ _ _ h => h) (Or.inl ⟨by kernel_rfl, fun w => by go_simp⟩) ?_
      refine wpAny_take (i := 6) (v := undef) rfl (by kernel_rfl) (by kernel_rfl) (by kernel_rfl) (fun _ _ _ h => h) (Or.inr ⟨by kernel_rfl, rfl⟩) ?_
      refine wpAny_take (i := 7) (v := undef) rfl (by kernel_rfl) (by kernel_rfl) (by kernel_rfl) (fun _ _ _ h => h) (Or.inr ⟨by kernel_rfl, rfl⟩) ?_
      refine wpAny_take (i := 8) (v := undef) rfl (by kernel_rfl) (by kernel_rfl) (by kernel_rfl) (fun _ _ _ h => h) (Or.inr ⟨by kernel_rfl, rfl⟩) ?_
      refine wpAny_take (i := 9) (v := undef) rfl (by kernel_rfl) (by kernel_rfl) (by kernel_rfl) (fun _ _ _ h => h) (Or.inr ⟨by kernel_rfl, rfl⟩) ?_
      refine wpAny_take (i := 10) (v := undef) rfl (by kernel_rfl) (by kernel_rfl) (by kernel_rfl) (fun _ _ _ h => h) (Or.inr ⟨by kernel_rfl, rfl⟩) ?_
      refine wpAny_take (i := 11) (v := undef) rfl (by kernel_rfl) (by kernel_rfl) (by kernel_rfl) (fun _ _ _ h => h) (Or.inr ⟨by kernel_rfl, rfl⟩) ?_
      refine wpAny_take (i := 12) (v := undef) rfl (by kernel_rfl) (by kernel_rfl) (by kernel_rfl) (fun _ _ _ h => h) (Or.inr ⟨by kernel_rfl, rfl⟩) ?_
      refine wpAny_take (i := 13) (v := undef) rfl (by kernel_rfl) (by kernel_rfl) (by kernel_rfl) (fun _ _ _ h => h) (Or.inr ⟨by kernel_rfl, rfl⟩) ?_
      refine wpAny_take (i := 14) (v := .bool false) rfl (by kernel_rfl) (by kernel_rfl) (by kernel_rfl) (fun _ _ _ h => h) (Or.inl ⟨by kernel_rfl, fun w => by go_simp⟩) ?_
      refine wpAny_done (by kernel_rfl) ?_ _
      go_simp
      go_wp2
      go_ret
      exact ⟨_, rfl, by rw [HF1.out]; exact HOz.out⟩
end Go.Proofs.YtnmmpiddmckghaaDoor.Se
