/-
  Layer 9, in the document's own: Middle. Conditions: the lists can be read; the array has sixteen places.
-/
import Derived.Test.YtcnligkndficoaaQuM0
import Derived.Test.YtcnligkndficoaaQuW
namespace Go.Proofs.Ytcnligkndficoaa.Qu
open Go.RowKit Go.Proofs.Ytcnligkndficoaa.Fld
set_option linter.unusedVariables false

set_option maxRecDepth 100000 in
set_option maxHeartbeats 6400000 in
theorem refmiddle_any (VA : Option Addr) (vn vc : Nat) (vs : List Int) (LA : Option Addr) (ln lc : Nat) (ls : List Int) (ps : List Int) (hp : ps.length = 16) (w : World) (hv : RdI w VA vn vs) (hl : RdI w LA ln ls) :
    Calls Try.prog 21 #[grpV VA vn vc LA ln lc, .agg (arrC ps)] w fun e w' => e = .returned (.int .i64 (midG vs ls ps)) ∧ Below w.heap.size w w' := by
  have hb0 := alloc_below w (.cells #[.slice VA vn vc, .slice LA ln lc] 24)
  have hb1 : Below w.heap.size w ((w.alloc (.cells #[.slice VA vn vc, .slice LA ln lc] 24)).alloc (.cells (arrC ps) 30)) := hb0.trans ((alloc_below _ _).mono hb0.size)
  have hk0 := (Blk.new w #[.slice VA vn vc, .slice LA ln lc] 24).past (.cells (arrC ps) 30)
  have hk1 := Blk.new (w.alloc (.cells #[.slice VA vn vc, .slice LA ln lc] 24)) (arrC ps) 30
  rw [show (w.alloc (.cells #[.slice VA vn vc, .slice LA ln lc] 24)).heap.size = w.heap.size + 1 by simp] at hk1
  have HR := Lib.hid (rightGroup_any VA vn vc vs LA ln lc ls _ (RdI.below hv hb1) (RdI.below hl hb1))
  have HB1 := Lib.hid hb1
  have HK0 := Lib.hid hk0
  have HK1 := Lib.hid hk1
  have HVR := Lib.hid hv
  have HLR := Lib.hid hl
  have HVL := Lib.hid hv.1
  have HP := Lib.hid hp
  have HM := Lib.hid (show midG vs ls ps = if grpOk vs ls = true then midOf (vs.map (atOf ps)) (need vs) else 0 from rfl)
  rw [HM.out]
  unfold grpV at HR ⊢
  have c0 := hk0.cell 0 (.slice VA vn vc) rfl
  have c1 := hk0.cell 1 (.slice LA ln lc) rfl
  clear hv hl hb0 hb1 hk0 hk1 hp
  generalize harr : arrC ps = ar at *
  have HAR := Lib.hid harr
  clear harr
  cases hg : grpOk vs ls with
  | false =>
    rw [hg] at HR
    simp only [Bool.false_eq_true, if_false]
    go_enter Try.func21, Try.ntmps21
    go_wp2_with fail
    refine HR.out.mono ?_
    clear HR c0 c1
    rintro e w1 ⟨rfl, hb⟩
    have HE0 := Lib.hid (HK0.out.below hb)
    have HE1 := Lib.hid (HK1.out.below hb)
    have HEB := Lib.hid (HB1.out.trans (hb.mono HB1.out.size))
    clear HK0 HK1 HB1
    clear hb
    have c0 := HE0.out.cell 0 (.slice VA vn vc) rfl
    have c1 := HE0.out.cell 1 (.slice LA ln lc) rfl
    go_wp2
    go_ret
    exact ⟨rfl, HEB.out⟩
  | true =>
    rw [hg] at HR
    simp only [if_true]
    have hl1 := (ok_len hg).1
    have HG := Lib.hid hg
    have hvn0 : 0 < vn := by rw [← HVL.out]; exact List.length_pos_iff.2 ((grpOk_iff vs ls).1 hg).1
    rw [HVL.out] at hl1
    have HND := Lib.hid (node_nat hg)
    clear hg
    have HYL := Lib.hid (show (vs.map (atOf ps)).length = vn by rw [List.length_map, HVL.out])
    have HMT := Lib.hid (map_take vs (atOf ps))
    obtain ⟨ys, hys⟩ : ∃ ys, vs.map (atOf ps) = ys := ⟨_, rfl⟩
    have HMID := Lib.hid (show midOf (vs.map (atOf ps)) (need vs) = (srt ys).getD (vn - (vn / 2 + 1)) 0 by unfold midOf need; rw [HYL.out, HVL.out, hys])
    have HBM := Lib.hid (show (best (vn / 2 + 1) (vs.map (atOf ps)) (vs.map (atOf ps))).1 = midOf (vs.map (atOf ps)) (need vs) by
      have e : need vs = vn / 2 + 1 := by unfold need; rw [HVL.out]
      rw [e]
      exact best_mid _ _ (by omega) (by rw [HYL.out]; omega))
    have HYG := Lib.hid (show ∀ k, k < vn → ∀ m : Nat, vs.getD k 0 = (m : Int) → (vs.map (atOf ps)).getD k 0 = ps.getD m 0 by
      intro k hk m hm
      rw [List.getD_eq_getElem?_getD, List.getElem?_map, List.getElem?_eq_getElem (by rw [HVL.out]; exact hk)]
      rw [List.getD_eq_getElem?_getD, List.getElem?_eq_getElem (by rw [HVL.out]; exact hk)] at hm
      simp only [Option.map_some, Option.getD_some] at hm ⊢
      rw [hm]
      unfold atOf
      simp)
    rw [hys] at HYL HMT HBM HYG
    rw [hys, ← HBM.out]
    clear hys HMID HM HBM
    obtain ⟨N, hN⟩ : ∃ N, vn / 2 + 1 = N := ⟨_, rfl⟩
    have HN := Lib.hid hN
    rw [hN]
    have hN15 : N ≤ 15 := by omega
    clear hN
    go_enter Try.func21, Try.ntmps21
    go_wp2_with fail
    refine HR.out.mono ?_
    clear HR c0 c1
    rintro e w1 ⟨rfl, hb⟩
    have HE0 := Lib.hid (HK0.out.below hb)
    have HE1 := Lib.hid (HK1.out.below hb)
    have HEB := Lib.hid (HB1.out.trans (hb.mono HB1.out.size))
    clear HK0 HK1 HB1
    clear hb
    have c0 := HE0.out.cell 0 (.slice VA vn vc) rfl
    have c1 := HE0.out.cell 1 (.slice LA ln lc) rfl
    have HC := Lib.hid (fun W (hW : Below w.heap.size w W) => refneed_any VA vn vc vs LA ln lc ls W (HVR.out.below hW) (HLR.out.below hW))
    rw [HG.out, if_pos rfl, HN.out] at HC
    unfold grpV at HC
    have HCP := Lib.hid (cntP_take ys)
    have HBT := Lib.hid (best_take N ys ys)
    go_wp2_with fail
    go_loopw [6, 7, 8] (fun bs fd i wr => ∃ k : Nat, k ≤ vn ∧ i = .int .i64 k ∧ bs = .int .i64 (best N ys (ys.take k)).1 ∧ fd = .bool (best N ys (ys.take k)).2 ∧ Below w1.heap.size w1 wr) (fun _ _ i _ => vn - (intOf i).toNat)
    case atStart => exact ⟨0, Nat.zero_le _, rfl, rfl, rfl, Below.refl _ _⟩
    case round =>
      obtain ⟨k, hk, rfl, rfl, rfl, hb⟩ := hrel
      obtain ⟨wo, hwo⟩ : ∃ wo, wo = wr := ⟨_, rfl⟩
      subst hwo
      have HB := Lib.hid hb
      have HBW := Lib.hid (HEB.out.trans (hb.mono HEB.out.size))
      have K0 := Lib.hid (HE0.out.below hb)
      have K1 := Lib.hid (HE1.out.below hb)
      clear c0 c1 hb
      have c0 := K0.out.cell 0 (.slice VA vn vc) rfl
      have c1 := K0.out.cell 1 (.slice LA ln lc) rfl
      by_cases hlt : k < vn
      · obtain ⟨b, off, rfl, hcell⟩ := (RdI.below HVR.out HBW.out).2.2 (by omega)
        have HCE := Lib.hid (show ∀ i, i < vn → ∃ m : Nat, wo.cell? ⟨b, off + i, none⟩ = some (.int .i64 (m : Int)) ∧ m < 16 ∧ wo.cell? ⟨w.heap.size + 1, m, none⟩ = some (.int .i64 (ys.getD i 0)) by
          intro i hi
          obtain ⟨m, hm, hm1, hm2⟩ := HND.out i (by rw [HVL.out]; exact hi)
          refine ⟨m, by rw [hcell i hi, hm], by omega, ?_⟩
          rw [HYG.out i hi m hm]
          exact K1.out.cell m _ (by rw [← HAR.out]; exact arrC_at ps m (by rw [HP.out]; omega)))
        clear hcell
        obtain ⟨m, g1, g2, g3⟩ := HCE.out k hlt
        have HBK := Lib.hid (HBT.out k (by rw [HYL.out]; exact hlt))
        obtain ⟨q, hq⟩ : ∃ q, best N ys (ys.take k) = q := ⟨_, rfl⟩
        rw [hq] at HBK ⊢
        clear hq
        obtain ⟨bb, fb⟩ := q
        simp only at HBK ⊢
        generalize ys.getD k 0 = y at *
        have j1 : (k : Int) < (vn : Int) := by omega
        have j3 : (m : Int) < 16 := by omega
        have j4 : (0 : Int) ≤ (k : Int) := by omega
        have j5 : (0 : Int) ≤ (m : Int) := by omega
        go_wp2_with fail
        go_loopw [10, 11] (fun c j wi => ∃ i : Nat, i ≤ vn ∧ j = .int .i64 i ∧ c = .int .i64 (((ys.take i).countP (fun z => decide (y ≤ z)) : Nat) : Int) ∧ wi = wo) (fun _ j _ => vn - (intOf j).toNat)
        case atStart => exact ⟨0, Nat.zero_le _, rfl, rfl, rfl⟩
        case round =>
          obtain ⟨i, hi, rfl, rfl, rfl⟩ := hrel
          have hle : (ys.take i).countP (fun z => decide (y ≤ z)) ≤ i := Nat.le_trans List.countP_le_length (by rw [List.length_take]; omega)
          by_cases hlt2 : i < vn
          · obtain ⟨m2, p1, p2, p3⟩ := HCE.out i hlt2
            have HC1 := Lib.hid (HCP.out (fun z => decide (y ≤ z)) i (by rw [HYL.out]; exact hlt2))
            generalize ys.getD i 0 = z at *
            generalize (ys.take i).countP (fun z => decide (y ≤ z)) = c at *
            have k1 : (i : Int) < (vn : Int) := by omega
            have k3 : (m2 : Int) < 16 := by omega
            have k4 : (0 : Int) ≤ (i : Int) := by omega
            have k5 : (0 : Int) ≤ (m2 : Int) := by omega
            by_cases hyz : y ≤ z
            · have HC2 := Lib.hid (show (ys.take (i + 1)).countP (fun z => decide (y ≤ z)) = c + 1 by rw [HC1.out]; simp [hyz])
              clear HC1
              go_wp2
              go_roundw
              case rel => exact ⟨i + 1, by omega, by go_num, by rw [HC2.out]; go_num, trivial⟩
              case measure => simp [intOf]; omega
            · have HC2 := Lib.hid (show (ys.take (i + 1)).countP (fun z => decide (y ≤ z)) = c by rw [HC1.out]; simp [hyz])
              clear HC1
              go_wp2
              go_roundw
              case rel => exact ⟨i + 1, by omega, by go_num, by rw [HC2.out], trivial⟩
              case measure => simp [intOf]; omega
          · obtain rfl : i = vn := by omega
            have HTK := Lib.hid (show ys.take i = ys by rw [← HYL.out, List.take_length])
            rw [HTK.out] at hle ⊢
            have HBS := Lib.hid (show best N ys (ys.take (k + 1)) = if N ≤ ys.countP (fun z => decide (y ≤ z)) ∧ (fb = false ∨ bb < y) then (y, true) else (bb, fb) from HBK.out)
            generalize ys.countP (fun z => decide (y ≤ z)) = c at *
            go_wp2_with fail
            refine (HC.out _ HBW.out).mono ?_
            rintro e w6 ⟨rfl, hb6⟩
            have HB6 := Lib.hid (HB.out.trans (hb6.mono HB.out.size))
            clear hb6
            by_cases hc : N ≤ c
            · have q1 : decide ((N : Int) ≤ (c : Int)) = true := by simp; omega
              cases fb with
              | false =>
                have HR := Lib.hid (show best N ys (ys.take (k + 1)) = (y, true) by rw [HBS.out, if_pos ⟨hc, .inl rfl⟩])
                go_wp2
                go_roundw
                case rel => exact ⟨k + 1, by omega, by go_num, by rw [HR.out], by rw [HR.out], HB6.out⟩
                case measure => simp [intOf]; omega
              | true =>
                by_cases hby : bb < y
                · have HR := Lib.hid (show best N ys (ys.take (k + 1)) = (y, true) by rw [HBS.out, if_pos ⟨hc, .inr hby⟩])
                  go_wp2
                  go_roundw
                  case rel => exact ⟨k + 1, by omega, by go_num, by rw [HR.out], by rw [HR.out], HB6.out⟩
                  case measure => simp [intOf]; omega
                · have HR := Lib.hid (show best N ys (ys.take (k + 1)) = (bb, true) by rw [HBS.out, if_neg (by rintro ⟨_, h | h⟩; exact absurd h (by simp); exact hby h)])
                  go_wp2
                  go_roundw
                  case rel => exact ⟨k + 1, by omega, by go_num, by rw [HR.out], by rw [HR.out], HB6.out⟩
                  case measure => simp [intOf]; omega
            · have q1 : decide ((N : Int) ≤ (c : Int)) = false := by simp; omega
              have HR := Lib.hid (show best N ys (ys.take (k + 1)) = (bb, fb) by rw [HBS.out, if_neg (fun h => hc h.1)])
              go_wp2
              go_roundw
              case rel => exact ⟨k + 1, by omega, by go_num, by rw [HR.out], by rw [HR.out], HB6.out⟩
              case measure => simp [intOf]; omega
      · obtain rfl : k = vn := by omega
        have HTK := Lib.hid (show ys.take k = ys by rw [← HYL.out, List.take_length])
        rw [HTK.out]
        go_wp2
        go_ret
        exact ⟨rfl, HBW.out⟩
end Go.Proofs.Ytcnligkndficoaa.Qu
