/-
  Several texts in one: Layer 9, most of the voters, in the program: Wins. Conditions: the lists can be read. Layer 9, most of the voters, in the program: Lost. Conditions: the lists can be read.
-/
import Derived.Test.YtjadfpcipicckaaGreatJQuA
import Derived.Deep.RegionHeld3
import Derived.Deep.RegionWith
namespace Go.Proofs.YtjadfpcipicckaaGreat.Qu
open Go.RowKit Go.Proofs.YtjadfpcipicckaaGreat.Fld
set_option linter.unusedVariables false

set_option maxRecDepth 100000 in
set_option maxHeartbeats 3200000 in
theorem wins_any (VA : Option Addr) (vn vc : Nat) (vs : List Int) (LA : Option Addr) (ln lc : Nat) (ls : List Int) (B : Option Addr) (m d : Nat) (l : List Int) (w : World) (hv : RdI w VA vn vs) (hl : RdI w LA ln ls) (hs : RdI w B m l) :
    Calls Tryz.prog 66 #[grpV VA vn vc LA ln lc, .slice B m d] w fun e w' => e = .returned (.bool (winsG vs ls l)) ∧ Below w.heap.size w w' := by
  have hb := alloc_below w (.cells #[.slice VA vn vc, .slice LA ln lc] 26)
  have HBN := Lib.hid hb
  have HK := Lib.hid (Blk.new w #[.slice VA vn vc, .slice LA ln lc] 26)
  have HR := Lib.hid (fun W (hW : Below w.heap.size w W) => right_any VA vn vc vs LA ln lc ls W (RdI.below hv hW) (RdI.below hl hW))
  have HN := Lib.hid (fun W (hW : Below w.heap.size w W) => need_any VA vn vc vs LA ln lc ls W (RdI.below hv hW) (RdI.below hl hW))
  have HC := Lib.hid (fun W (hW : Below w.heap.size w W) => count_any VA vn vc vs B m d l W (RdI.below hv hW) (RdI.below hs hW))
  have HA := Lib.hid (fun W (hW : Below (w.alloc (.cells #[.slice VA vn vc, .slice LA ln lc] 26)).heap.size (w.alloc (.cells #[.slice VA vn vc, .slice LA ln lc] 26)) W) => And.intro ((HK.out.below hW).cell 0 (.slice VA vn vc) rfl) ((HK.out.below hW).cell 1 (.slice LA ln lc) rfl))
  have hcl := cnt_le vs l
  have hmv := hv.2.1
  rw [hv.1] at hcl
  unfold maxLen at hmv
  have HW := Lib.hid (show winsG vs ls l = (grpOk vs ls && decide (vn / 2 + 1 ≤ cnt vs l)) by unfold winsG need; rw [hv.1])
  rw [HW.out]
  have HAL := Lib.hid (Below.refl (w.alloc (.cells #[.slice VA vn vc, .slice LA ln lc] 26)).heap.size (w.alloc (.cells #[.slice VA vn vc, .slice LA ln lc] 26)))
  unfold grpV at HR HN  ⊢
  generalize cnt vs l = c at *
  have c0 := HK.out.cell 0 (.slice VA vn vc) rfl
  have c1 := HK.out.cell 1 (.slice LA ln lc) rfl
  clear hv hl hs hb HK
  cases hg : grpOk vs ls with
  | false =>
    rw [hg] at HR
    go_enter Tryz.func66, Tryz.ntmps66
    go_wp2_with fail
    refine wp_region_any (by kernel_rfl) ?_
    try (change wpAny _ _ _ _ _ _ _ (World.drew _))
    refine wpAny_ready (rs := [0]) (by kernel_rfl) (by simp) ?_
    refine AllReady.cons rfl (fun K hK => ?_) AllReady.nil
    go_simp
    refine hK _ _ ?_
    clear hK K
    refine wpAny_ready (rs := [1]) (by kernel_rfl) (by simp) ?_
    refine AllReady.cons rfl (fun K hK => ?_) AllReady.nil
    go_simp
    go_wp2_with ((go_at_call 37; refine (HR.out _ (by first | exact HBN.out | exact HBN.out.drew)).mono ?_; rintro e w1 ⟨rfl, hb1⟩; have HAL := Lib.hid ((show Below (w.alloc (.cells #[.slice VA vn vc, .slice LA ln lc] 26)).heap.size (w.alloc (.cells #[.slice VA vn vc, .slice LA ln lc] 26)) _ from by first | exact HAL.out | exact HAL.out.drew).trans (hb1.mono (by exact HAL.out.size))); have HBN := Lib.hid ((show Below w.heap.size w _ from by first | exact HBN.out | exact HBN.out.drew).trans (hb1.mono (by exact HBN.out.size))); clear c0 c1 hb1; obtain ⟨c0, c1⟩ := HA.out _ HAL.out))
    try (refine hK _ _ ?_; clear hK K)
    refine wpAny_take (i := 2) (v := .bool false) rfl (by kernel_rfl) (by kernel_rfl) (by kernel_rfl) (fun _ _ _ h => h) (Or.inl ⟨by rfl, fun w => by go_simp⟩) ?_
    refine wpAny_take (i := 3) (v := undef) rfl (by kernel_rfl) (by kernel_rfl) (by kernel_rfl) (fun _ _ _ h => h) (Or.inr ⟨by rfl, rfl⟩) ?_
    refine wpAny_take (i := 4) (v := undef) rfl (by kernel_rfl) (by kernel_rfl) (by kernel_rfl) (fun _ _ _ h => h) (Or.inr ⟨by rfl, rfl⟩) ?_
    refine wpAny_take (i := 5) (v := undef) rfl (by kernel_rfl) (by kernel_rfl) (by kernel_rfl) (fun _ _ _ h => h) (Or.inr ⟨by rfl, rfl⟩) ?_
    refine wpAny_take (i := 6) (v := undef) rfl (by kernel_rfl) (by kernel_rfl) (by kernel_rfl) (fun _ _ _ h => h) (Or.inr ⟨by rfl, rfl⟩) ?_
    refine wpAny_take (i := 7) (v := undef) rfl (by kernel_rfl) (by kernel_rfl) (by kernel_rfl) (fun _ _ _ h => h) (Or.inr ⟨by rfl, rfl⟩) ?_
    refine wpAny_take (i := 8) (v := undef) rfl (by kernel_rfl) (by kernel_rfl) (by kernel_rfl) (fun _ _ _ h => h) (Or.inr ⟨by rfl, rfl⟩) ?_
    refine wpAny_take (i := 9) (v := undef) rfl (by kernel_rfl) (by kernel_rfl) (by kernel_rfl) (fun _ _ _ h => h) (Or.inr ⟨by rfl, rfl⟩) ?_
    refine wpAny_take (i := 10) (v := .bool false) rfl (by kernel_rfl) (by kernel_rfl) (by kernel_rfl) (fun _ _ _ h => h) (Or.inl ⟨by rfl, fun w => by go_simp⟩) ?_
    refine wpAny_take (i := 11) (v := .bool false) rfl (by kernel_rfl) (by kernel_rfl) (by kernel_rfl) (fun _ _ _ h => h) (Or.inl ⟨by rfl, fun w => by go_simp⟩) ?_
    refine wpAny_done (by kernel_rfl) ?_ _
    go_simp
    go_wp2
    go_ret
    exact ⟨rfl, by first | exact HBN.out | exact HBN.out.drew⟩
  | true =>
    rw [hg] at HR HN
    simp only [if_true, Bool.true_and] at HN ⊢
    go_enter Tryz.func66, Tryz.ntmps66
    go_wp2_with fail
    go_region_held3 (fun w' => w'.cell? ⟨w.heap.size, 0, none⟩ = some (.slice VA vn vc) ∧ w'.cell? ⟨w.heap.size, 1, none⟩ = some (.slice LA ln lc)) (first | exact ⟨by assumption, by assumption⟩ | go_keep) (first | (go_at_call 37; refine (HR.out _ (by first | exact HBN.out | exact HBN.out.drew)).mono ?_; rintro e w1 ⟨rfl, hb1⟩; have HAL := Lib.hid ((show Below (w.alloc (.cells #[.slice VA vn vc, .slice LA ln lc] 26)).heap.size (w.alloc (.cells #[.slice VA vn vc, .slice LA ln lc] 26)) _ from by first | exact HAL.out | exact HAL.out.drew).trans (hb1.mono (by exact HAL.out.size))); have HBN := Lib.hid ((show Below w.heap.size w _ from by first | exact HBN.out | exact HBN.out.drew).trans (hb1.mono (by exact HBN.out.size))); clear c0 c1 hb1; obtain ⟨c0, c1⟩ := HA.out _ HAL.out) | (go_at_call 78; refine (HC.out _ (by first | exact HBN.out | exact HBN.out.drew)).mono ?_; rintro e w1 ⟨rfl, rfl⟩) | (go_at_call 99; refine (HN.out _ (by first | exact HBN.out | exact HBN.out.drew)).mono ?_; rintro e w1 ⟨rfl, hb1⟩; have HAL := Lib.hid ((show Below (w.alloc (.cells #[.slice VA vn vc, .slice LA ln lc] 26)).heap.size (w.alloc (.cells #[.slice VA vn vc, .slice LA ln lc] 26)) _ from by first | exact HAL.out | exact HAL.out.drew).trans (hb1.mono (by exact HAL.out.size))); have HBN := Lib.hid ((show Below w.heap.size w _ from by first | exact HBN.out | exact HBN.out.drew).trans (hb1.mono (by exact HBN.out.size))); clear c0 c1 hb1; obtain ⟨c0, c1⟩ := HA.out _ HAL.out))
    all_goals
      go_wp2
      go_ret
      exact ⟨congrArg Ending.returned (congrArg Value.bool (decide_eq_decide.2 (by omega))), by first | exact HBN.out | exact HBN.out.drew⟩
end Go.Proofs.YtjadfpcipicckaaGreat.Qu

namespace Go.Proofs.YtjadfpcipicckaaGreat.Qu
open Go.RowKit Go.Proofs.YtjadfpcipicckaaGreat.Fld
set_option linter.unusedVariables false

set_option maxRecDepth 100000 in
set_option maxHeartbeats 3200000 in
theorem lost_any (VA : Option Addr) (vn vc : Nat) (vs : List Int) (LA : Option Addr) (ln lc : Nat) (ls : List Int) (B : Option Addr) (m d : Nat) (l : List Int) (w : World) (hv : RdI w VA vn vs) (hl : RdI w LA ln ls) (hs : RdI w B m l) :
    Calls Tryz.prog 137 #[grpV VA vn vc LA ln lc, .slice B m d] w fun e w' => e = .returned (.bool (lostG vs ls l)) ∧ Below w.heap.size w w' := by
  have hb := alloc_below w (.cells #[.slice VA vn vc, .slice LA ln lc] 26)
  have HBN := Lib.hid hb
  have HK := Lib.hid (Blk.new w #[.slice VA vn vc, .slice LA ln lc] 26)
  have HR := Lib.hid (fun W (hW : Below w.heap.size w W) => right_any VA vn vc vs LA ln lc ls W (RdI.below hv hW) (RdI.below hl hW))
  have HN := Lib.hid (fun W (hW : Below w.heap.size w W) => need_any VA vn vc vs LA ln lc ls W (RdI.below hv hW) (RdI.below hl hW))
  have HC := Lib.hid (fun W (hW : Below w.heap.size w W) => count_any VA vn vc vs B m d l W (RdI.below hv hW) (RdI.below hs hW))
  have HA := Lib.hid (fun W (hW : Below (w.alloc (.cells #[.slice VA vn vc, .slice LA ln lc] 26)).heap.size (w.alloc (.cells #[.slice VA vn vc, .slice LA ln lc] 26)) W) => And.intro ((HK.out.below hW).cell 0 (.slice VA vn vc) rfl) ((HK.out.below hW).cell 1 (.slice LA ln lc) rfl))
  have hcl := cnt_le vs l
  have hmv := hv.2.1
  rw [hv.1] at hcl
  unfold maxLen at hmv
  have HW := Lib.hid (show lostG vs ls l = (grpOk vs ls && decide (vn - cnt vs l < vn / 2 + 1)) by unfold lostG need; rw [hv.1])
  rw [HW.out]
  have HAL := Lib.hid (Below.refl (w.alloc (.cells #[.slice VA vn vc, .slice LA ln lc] 26)).heap.size (w.alloc (.cells #[.slice VA vn vc, .slice LA ln lc] 26)))
  unfold grpV at HR HN  ⊢
  generalize cnt vs l = c at *
  have c0 := HK.out.cell 0 (.slice VA vn vc) rfl
  have c1 := HK.out.cell 1 (.slice LA ln lc) rfl
  clear hv hl hs hb HK
  cases hg : grpOk vs ls with
  | false =>
    rw [hg] at HR
    go_enter Tryz.func137, Tryz.ntmps137
    go_wp2_with fail
    refine wp_region_any (by kernel_rfl) ?_
    try (change wpAny _ _ _ _ _ _ _ (World.drew _))
    refine wpAny_ready (rs := [0]) (by kernel_rfl) (by simp) ?_
    refine AllReady.cons rfl (fun K hK => ?_) AllReady.nil
    go_simp
    refine hK _ _ ?_
    clear hK K
    refine wpAny_ready (rs := [1]) (by kernel_rfl) (by simp) ?_
    refine AllReady.cons rfl (fun K hK => ?_) AllReady.nil
    go_simp
    go_wp2_with ((go_at_call 37; refine (HR.out _ (by first | exact HBN.out | exact HBN.out.drew)).mono ?_; rintro e w1 ⟨rfl, hb1⟩; have HAL := Lib.hid ((show Below (w.alloc (.cells #[.slice VA vn vc, .slice LA ln lc] 26)).heap.size (w.alloc (.cells #[.slice VA vn vc, .slice LA ln lc] 26)) _ from by first | exact HAL.out | exact HAL.out.drew).trans (hb1.mono (by exact HAL.out.size))); have HBN := Lib.hid ((show Below w.heap.size w _ from by first | exact HBN.out | exact HBN.out.drew).trans (hb1.mono (by exact HBN.out.size))); clear c0 c1 hb1; obtain ⟨c0, c1⟩ := HA.out _ HAL.out))
    try (refine hK _ _ ?_; clear hK K)
    refine wpAny_take (i := 2) (v := .bool false) rfl (by kernel_rfl) (by kernel_rfl) (by kernel_rfl) (fun _ _ _ h => h) (Or.inl ⟨by kernel_rfl, fun w => by go_simp⟩) ?_
    refine wpAny_take (i := 3) (v := undef) rfl (by kernel_rfl) (by kernel_rfl) (by kernel_rfl) (fun _ _ _ h => h) (Or.inr ⟨by kernel_rfl, rfl⟩) ?_
    refine wpAny_take (i := 4) (v := undef) rfl (by kernel_rfl) (by kernel_rfl) (by kernel_rfl) (fun _ _ _ h => h) (Or.inr ⟨by kernel_rfl, rfl⟩) ?_
    refine wpAny_take (i := 5) (v := undef) rfl (by kernel_rfl) (by kernel_rfl) (by kernel_rfl) (fun _ _ _ h => h) (Or.inr ⟨by kernel_rfl, rfl⟩) ?_
    refine wpAny_take (i := 6) (v := undef) rfl (by kernel_rfl) (by kernel_rfl) (by kernel_rfl) (fun _ _ _ h => h) (Or.inr ⟨by kernel_rfl, rfl⟩) ?_
    refine wpAny_take (i := 7) (v := undef) rfl (by kernel_rfl) (by kernel_rfl) (by kernel_rfl) (fun _ _ _ h => h) (Or.inr ⟨by kernel_rfl, rfl⟩) ?_
    refine wpAny_take (i := 8) (v := undef) rfl (by kernel_rfl) (by kernel_rfl) (by kernel_rfl) (fun _ _ _ h => h) (Or.inr ⟨by kernel_rfl, rfl⟩) ?_
    refine wpAny_take (i := 9) (v := undef) rfl (by kernel_rfl) (by kernel_rfl) (by kernel_rfl) (fun _ _ _ h => h) (Or.inr ⟨by kernel_rfl, rfl⟩) ?_
    refine wpAny_take (i := 10) (v := undef) rfl (by kernel_rfl) (by kernel_rfl) (by kernel_rfl) (fun _ _ _ h => h) (Or.inr ⟨by kernel_rfl, rfl⟩) ?_
    refine wpAny_take (i := 11) (v := undef) rfl (by kernel_rfl) (by kernel_rfl) (by kernel_rfl) (fun _ _ _ h => h) (Or.inr ⟨by kernel_rfl, rfl⟩) ?_
    refine wpAny_take (i := 12) (v := undef) rfl (by kernel_rfl) (by kernel_rfl) (by kernel_rfl) (fun _ _ _ h => h) (Or.inr ⟨by kernel_rfl, rfl⟩) ?_
    refine wpAny_take (i := 13) (v := undef) rfl (by kernel_rfl) (by kernel_rfl) (by kernel_rfl) (fun _ _ _ h => h) (Or.inr ⟨by kernel_rfl, rfl⟩) ?_
    refine wpAny_take (i := 14) (v := .bool false) rfl (by kernel_rfl) (by kernel_rfl) (by kernel_rfl) (fun _ _ _ h => h) (Or.inl ⟨by kernel_rfl, fun w => by go_simp⟩) ?_
    refine wpAny_take (i := 15) (v := .bool false) rfl (by kernel_rfl) (by kernel_rfl) (by kernel_rfl) (fun _ _ _ h => h) (Or.inl ⟨by kernel_rfl, fun w => by go_simp⟩) ?_
    refine wpAny_done (by kernel_rfl) ?_ _
    go_simp
    go_wp2
    go_ret
    exact ⟨rfl, by first | exact HBN.out | exact HBN.out.drew⟩
  | true =>
    rw [hg] at HR HN
    simp only [if_true, Bool.true_and] at HN ⊢
    have j1 : IntKind.i64.wrap ((vn : Int) - (c : Int)) = (vn : Int) - (c : Int) := IntWalk.i64_in _ (by omega)
    go_enter Tryz.func137, Tryz.ntmps137
    go_wp2_with fail
    go_region_held3 (fun w' => w'.cell? ⟨w.heap.size, 0, none⟩ = some (.slice VA vn vc) ∧ w'.cell? ⟨w.heap.size, 1, none⟩ = some (.slice LA ln lc)) (first | exact ⟨by assumption, by assumption⟩ | go_keep) (first | (go_at_call 37; refine (HR.out _ (by first | exact HBN.out | exact HBN.out.drew)).mono ?_; rintro e w1 ⟨rfl, hb1⟩; have HAL := Lib.hid ((show Below (w.alloc (.cells #[.slice VA vn vc, .slice LA ln lc] 26)).heap.size (w.alloc (.cells #[.slice VA vn vc, .slice LA ln lc] 26)) _ from by first | exact HAL.out | exact HAL.out.drew).trans (hb1.mono (by exact HAL.out.size))); have HBN := Lib.hid ((show Below w.heap.size w _ from by first | exact HBN.out | exact HBN.out.drew).trans (hb1.mono (by exact HBN.out.size))); clear c0 c1 hb1; obtain ⟨c0, c1⟩ := HA.out _ HAL.out) | (go_at_call 78; refine (HC.out _ (by first | exact HBN.out | exact HBN.out.drew)).mono ?_; rintro e w1 ⟨rfl, rfl⟩) | (go_at_call 99; refine (HN.out _ (by first | exact HBN.out | exact HBN.out.drew)).mono ?_; rintro e w1 ⟨rfl, hb1⟩; have HAL := Lib.hid ((show Below (w.alloc (.cells #[.slice VA vn vc, .slice LA ln lc] 26)).heap.size (w.alloc (.cells #[.slice VA vn vc, .slice LA ln lc] 26)) _ from by first | exact HAL.out | exact HAL.out.drew).trans (hb1.mono (by exact HAL.out.size))); have HBN := Lib.hid ((show Below w.heap.size w _ from by first | exact HBN.out | exact HBN.out.drew).trans (hb1.mono (by exact HBN.out.size))); clear c0 c1 hb1; obtain ⟨c0, c1⟩ := HA.out _ HAL.out))
    all_goals
      go_wp2
      go_ret
      exact ⟨congrArg Ending.returned (congrArg Value.bool (decide_eq_decide.2 (by omega))), by first | exact HBN.out | exact HBN.out.drew⟩
end Go.Proofs.YtjadfpcipicckaaGreat.Qu
