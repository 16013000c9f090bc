/-
  Layer 9, most of the voters, in the document's own: Need, count, Wins. Conditions: the lists can be read.
-/
import Derived.Test.YtjajgjpkiofhmaaQuR
import Derived.Deep.RegionHeld3
import Derived.Deep.RegionWith
namespace Go.Proofs.Ytjajgjpkiofhmaa.Qu
open Go.RowKit Go.Proofs.Ytjajgjpkiofhmaa.Fld
set_option linter.unusedVariables false

set_option maxRecDepth 100000 in
set_option maxHeartbeats 1600000 in
theorem refneed_any (VA : Option Addr) (vn vc : Nat) (vs : List Int) (LA : Option Addr) (ln lc : Nat) (ls : List Int) (w : World) (hv : RdI w VA vn vs) (hl : RdI w LA ln ls) :
    Calls Try.prog 61 #[grpV VA vn vc LA ln lc] w fun e w' => e = .returned (.int .i64 (if grpOk vs ls then ((vn / 2 + 1 : Nat) : Int) else 0)) ∧ Below w.heap.size w w' := by
  have hb := alloc_below w (.cells #[.slice VA vn vc, .slice LA ln lc] 26)
  have HBN := Lib.hid hb
  have HK := Lib.hid (Blk.new w #[.slice VA vn vc, .slice LA ln lc] 26)
  have HR := Lib.hid (rightGroup_any VA vn vc vs LA ln lc ls _ (RdI.below hv hb) (RdI.below hl hb))
  have hmv := hv.2.1
  unfold maxLen at hmv
  unfold grpV at HR ⊢
  clear hv hl hb
  have c0 := HK.out.cell 0 _ rfl
  have c1 := HK.out.cell 1 _ rfl
  cases hg : grpOk vs ls with
  | false =>
    rw [hg] at HR
    go_enter Try.func61, Try.ntmps61
    go_wp2_with fail
    refine HR.out.mono ?_
    rintro e w1 ⟨rfl, hb1⟩
    have HB1 := Lib.hid (HBN.out.trans (hb1.mono HBN.out.size))
    clear hb1
    go_wp2
    go_ret
    exact ⟨rfl, HB1.out⟩
  | true =>
    rw [hg] at HR
    have j1 : IntKind.i64.wrap ((vn : Int) / 2 + 1) = ((vn / 2 + 1 : Nat) : Int) := (IntWalk.i64_in _ (by omega)).trans (by omega)
    go_enter Try.func61, Try.ntmps61
    go_wp2_with fail
    refine HR.out.mono ?_
    rintro e w1 ⟨rfl, hb1⟩
    have HB1 := Lib.hid (HBN.out.trans (hb1.mono HBN.out.size))
    have K1 := Lib.hid (HK.out.below hb1)
    clear hb1 c0 c1
    have c0 := K1.out.cell 0 (.slice VA vn vc) rfl
    go_wp2
    go_ret
    exact ⟨by simp, HB1.out⟩
set_option maxRecDepth 100000 in
set_option maxHeartbeats 1600000 in
theorem refcount_any (VA : Option Addr) (vn vc : Nat) (vs : List Int) (LA : Option Addr) (ln lc : Nat) (ls : List Int) (B : Option Addr) (m d : Nat) (l : List Int) (w : World) (hv : RdI w VA vn vs) (hl : RdI w B m l) :
    Calls Try.prog 60 #[grpV VA vn vc LA ln lc, .slice B m d] w fun e w' => e = .returned (.int .i64 ((cnt vs l : Nat) : Int)) ∧ Below w.heap.size w w' := by
  have hb := alloc_below w (.cells #[.slice VA vn vc, .slice LA ln lc] 26)
  have HBN := Lib.hid hb
  have HK := Lib.hid (Blk.new w #[.slice VA vn vc, .slice LA ln lc] 26)
  have hv2 := RdI.below hv hb
  have hl2 := RdI.below hl hb
  generalize hwa : w.alloc (.cells #[.slice VA vn vc, .slice LA ln lc] 26) = wa at *
  have HI := Lib.hid (fun x => has_any B m d l x wa hl2)
  obtain ⟨hvl, hm, hc⟩ := hv2
  unfold maxLen at hm
  have HL := Lib.hid hvl
  have HC := Lib.hid hc
  have HT := Lib.hid (cnt_take vs l)
  have HLE := Lib.hid (fun k => Nat.le_trans (cnt_le (vs.take k) l) (show (vs.take k).length ≤ k by rw [List.length_take]; omega))
  subst hwa
  unfold grpV
  clear hvl hc hl hl2 hv hb
  have c0 := HK.out.cell 0 (.slice VA vn vc) rfl
  go_enter Try.func60, Try.ntmps60
  go_wp2
  go_loopw [5, 6] (fun c i wr => ∃ k : Nat, k ≤ vn ∧ i = .int .i64 k ∧ c = .int .i64 ((cnt (vs.take k) l : Nat) : Int) ∧ wr = w.alloc (.cells #[.slice VA vn vc, .slice LA ln lc] 26)) (fun _ i _ => vn - (intOf i).toNat)
  case atStart => exact ⟨0, Nat.zero_le _, rfl, rfl, rfl⟩
  case round =>
    obtain ⟨k, hk, rfl, rfl, rfl⟩ := hrel
    by_cases hlt : k < vn
    · obtain ⟨b, off, rfl, hcell⟩ := HC.out (by omega)
      have hc := hcell k hlt
      clear hcell
      have hle := HLE.out k
      have HT1 := Lib.hid (HT.out k (by rw [HL.out]; exact hlt))
      generalize vs.getD k 0 = y at *
      have HY := Lib.hid (HI.out y)
      generalize cnt (vs.take k) l = c at *
      cases hb : hasI l y with
      | true =>
        rw [hb] at HY HT1
        have HT2 := Lib.hid (show cnt (vs.take (k + 1)) l = c + 1 by rw [HT1.out]; rfl)
        go_wp2_with fail
        refine HY.out.mono ?_
        rintro e w' ⟨rfl, rfl⟩
        go_wp2
        go_roundw
        case rel => exact ⟨k + 1, by omega, by go_num, by rw [HT2.out]; go_num, trivial⟩
        case measure => simp [intOf]; omega
      | false =>
        rw [hb] at HY HT1
        have HT2 := Lib.hid (show cnt (vs.take (k + 1)) l = c by rw [HT1.out]; rfl)
        go_wp2_with fail
        refine HY.out.mono ?_
        rintro e w' ⟨rfl, rfl⟩
        go_wp2
        go_roundw
        case rel => exact ⟨k + 1, by omega, by go_num, by rw [HT2.out], trivial⟩
        case measure => simp [intOf]; omega
    · obtain rfl : k = vn := by omega
      have HF := Lib.hid (show cnt (vs.take k) l = cnt vs l by rw [← HL.out, List.take_length])
      go_wp2
      go_ret
      exact ⟨by rw [HF.out]; rfl, HBN.out⟩
set_option maxRecDepth 100000 in
set_option maxHeartbeats 3200000 in
theorem refwins_any (VA : Option Addr) (vn vc : Nat) (vs : List Int) (LA : Option Addr) (ln lc : Nat) (ls : List Int) (B : Option Addr) (m d : Nat) (l : List Int) (w : World) (hv : RdI w VA vn vs) (hl : RdI w LA ln ls) (hs : RdI w B m l) :
    Calls Try.prog 37 #[grpV VA vn vc LA ln lc, .slice B m d] w fun e w' => e = .returned (.bool (winsG vs ls l)) ∧ Below w.heap.size w w' := by
  have hb := alloc_below w (.cells #[.slice VA vn vc, .slice LA ln lc] 26)
  have HBN := Lib.hid hb
  have HK := Lib.hid (Blk.new w #[.slice VA vn vc, .slice LA ln lc] 26)
  have HR := Lib.hid (fun W (hW : Below w.heap.size w W) => rightGroup_any VA vn vc vs LA ln lc ls W (RdI.below hv hW) (RdI.below hl hW))
  have HN := Lib.hid (fun W (hW : Below w.heap.size w W) => refneed_any VA vn vc vs LA ln lc ls W (RdI.below hv hW) (RdI.below hl hW))
  have HC := Lib.hid (fun W (hW : Below w.heap.size w W) => refcount_any VA vn vc vs LA ln lc ls B m d l W (RdI.below hv hW) (RdI.below hs hW))
  have HA := Lib.hid (fun W (hW : Below (w.alloc (.cells #[.slice VA vn vc, .slice LA ln lc] 26)).heap.size (w.alloc (.cells #[.slice VA vn vc, .slice LA ln lc] 26)) W) => And.intro ((HK.out.below hW).cell 0 (.slice VA vn vc) rfl) ((HK.out.below hW).cell 1 (.slice LA ln lc) rfl))
  have hcl := cnt_le vs l
  have hmv := hv.2.1
  rw [hv.1] at hcl
  unfold maxLen at hmv
  have HW := Lib.hid (show winsG vs ls l = (grpOk vs ls && decide (vn / 2 + 1 ≤ cnt vs l)) by unfold winsG need; rw [hv.1])
  rw [HW.out]
  have HAL := Lib.hid (Below.refl (w.alloc (.cells #[.slice VA vn vc, .slice LA ln lc] 26)).heap.size (w.alloc (.cells #[.slice VA vn vc, .slice LA ln lc] 26)))
  unfold grpV at HR HN HC ⊢
  generalize cnt vs l = c at *
  have c0 := HK.out.cell 0 (.slice VA vn vc) rfl
  have c1 := HK.out.cell 1 (.slice LA ln lc) rfl
  clear hv hl hs hb HK
  cases hg : grpOk vs ls with
  | false =>
    rw [hg] at HR
    go_enter Try.func37, Try.ntmps37
    go_wp2_with fail
    refine (HR.out _ HBN.out).mono ?_
    rintro e w1 ⟨rfl, hb1⟩
    have HAL := Lib.hid ((show Below (w.alloc (.cells #[.slice VA vn vc, .slice LA ln lc] 26)).heap.size (w.alloc (.cells #[.slice VA vn vc, .slice LA ln lc] 26)) _ from by first | exact HAL.out | exact HAL.out.drew).trans (hb1.mono (by exact HAL.out.size)))
    have HBN := Lib.hid ((show Below w.heap.size w _ from by first | exact HBN.out | exact HBN.out.drew).trans (hb1.mono (by exact HBN.out.size)))
    clear c0 c1 hb1
    obtain ⟨c0, c1⟩ := HA.out _ HAL.out
    go_wp2_with fail
    go_quiet (fail)
    go_wp2
    go_ret
    exact ⟨rfl, HBN.out.trans ((below_dr _ _).mono HBN.out.size)⟩
  | true =>
    rw [hg] at HR HN
    simp only [if_true, Bool.true_and] at HN ⊢
    go_enter Try.func37, Try.ntmps37
    go_wp2_with fail
    refine (HR.out _ HBN.out).mono ?_
    rintro e w1 ⟨rfl, hb1⟩
    have HAL := Lib.hid ((show Below (w.alloc (.cells #[.slice VA vn vc, .slice LA ln lc] 26)).heap.size (w.alloc (.cells #[.slice VA vn vc, .slice LA ln lc] 26)) _ from by first | exact HAL.out | exact HAL.out.drew).trans (hb1.mono (by exact HAL.out.size)))
    have HBN := Lib.hid ((show Below w.heap.size w _ from by first | exact HBN.out | exact HBN.out.drew).trans (hb1.mono (by exact HBN.out.size)))
    clear c0 c1 hb1
    obtain ⟨c0, c1⟩ := HA.out _ HAL.out
    go_wp2_with fail
    go_region_held3 (fun w' => w'.cell? ⟨w.heap.size, 0, none⟩ = some (.slice VA vn vc) ∧ w'.cell? ⟨w.heap.size, 1, none⟩ = some (.slice LA ln lc)) (first | exact ⟨by assumption, by assumption⟩ | go_keep) (first | (go_at_call 60; refine (HC.out _ (by first | exact HBN.out | exact HBN.out.drew)).mono ?_; rintro e w1 ⟨rfl, hb1⟩; have HAL := Lib.hid ((show Below (w.alloc (.cells #[.slice VA vn vc, .slice LA ln lc] 26)).heap.size (w.alloc (.cells #[.slice VA vn vc, .slice LA ln lc] 26)) _ from by first | exact HAL.out | exact HAL.out.drew).trans (hb1.mono (by exact HAL.out.size))); have HBN := Lib.hid ((show Below w.heap.size w _ from by first | exact HBN.out | exact HBN.out.drew).trans (hb1.mono (by exact HBN.out.size))); clear c0 c1 hb1; obtain ⟨c0, c1⟩ := HA.out _ HAL.out) | (go_at_call 61; refine (HN.out _ (by first | exact HBN.out | exact HBN.out.drew)).mono ?_; rintro e w1 ⟨rfl, hb1⟩; have HAL := Lib.hid ((show Below (w.alloc (.cells #[.slice VA vn vc, .slice LA ln lc] 26)).heap.size (w.alloc (.cells #[.slice VA vn vc, .slice LA ln lc] 26)) _ from by first | exact HAL.out | exact HAL.out.drew).trans (hb1.mono (by exact HAL.out.size))); have HBN := Lib.hid ((show Below w.heap.size w _ from by first | exact HBN.out | exact HBN.out.drew).trans (hb1.mono (by exact HBN.out.size))); clear c0 c1 hb1; obtain ⟨c0, c1⟩ := HA.out _ HAL.out))
    all_goals
      go_wp2
      go_ret
      exact ⟨congrArg Ending.returned (congrArg Value.bool (decide_eq_decide.2 (by omega))), by first | exact HBN.out | exact HBN.out.drew⟩
end Go.Proofs.Ytjajgjpkiofhmaa.Qu
