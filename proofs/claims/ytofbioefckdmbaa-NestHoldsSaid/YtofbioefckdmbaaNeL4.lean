/-
  Layer 14, that the law NestHolds answers true. Conditions: the limits and the pairs can be read.
-/
import Derived.Test.YtofbioefckdmbaaNeL6
import Derived.Test.YtofbioefckdmbaaNeL5
import Derived.Test.YtofbioefckdmbaaNeOpn
namespace Go.Proofs.Ytofbioefckdmbaa.Ne
open Go.RowKit Go.Proofs.Ytofbioefckdmbaa.Qu Go.Proofs.Ytofbioefckdmbaa.Fld
set_option linter.unusedVariables false

theorem sellE_left {L S : List Int} (h : rightP L S) {k : Nat} (hk : k < L.length) : (0 < lft L S k → sellE L S (k : Int) (lft L S k) = 0) ∧ (lft L S k < 10000 → sellE L S (k : Int) (lft L S k + 1) = 3) := by
  have hb := lft_bd h k hk
  have hP : hasP L S (k : Int) := ⟨h, by omega, by omega⟩
  constructor
  · intro h0
    unfold sellE
    rw [if_pos hP, Int.toNat_natCast, if_neg (by omega), if_neg (by omega)]
  · intro h0
    unfold sellE
    rw [if_pos hP, Int.toNat_natCast, if_neg (by omega), if_pos (by omega)]
theorem backE_cases (L S : List Int) (c d : Int) : backE L S c d = 0 ∨ backE L S c d = 1 := by
  unfold backE
  split
  · split <;> simp
  · simp
theorem rightP_len {L S : List Int} (h : rightP L S) : S.length = L.length := h.2.1
set_option maxRecDepth 100000 in
set_option maxHeartbeats 6400000 in
theorem holds_walk (A : Option Addr) (n cap : Nat) (L : List Int) (P : Option Addr) (ln pcap : Nat) (ps : List (Int × Int)) (w : World) (ha : RdI w A n L) (hp : RdP w P ln ps) :
    Calls Try.prog 6 #[.slice A n cap, .slice P ln pcap] w fun e w' => e = .returned (.bool true) ∧ Below w.heap.size w w' := by
  have HAW := Lib.hid (awake_any w)
  have HA := Lib.hid (fun (W : World) (hW : Below w.heap.size w W) => ha.below hW)
  have HPP := Lib.hid (fun (W : World) (hW : Below w.heap.size w W) => RdP.below hp hW)
  have HLN := Lib.hid ha.1
  have hmx : n ≤ 9223372036854775807 := ha.2.1
  have hmp : ln ≤ 9223372036854775807 := hp.2.1
  have HZR := Lib.hid (fun (M : Nat) (hM : M ≤ 20) (W : World) (hW : Below w.heap.size w W) => (show Below w.heap.size w (W.alloc (.cells (iRow (List.replicate M 0)) 3)) ∧ RdI (W.alloc (.cells (iRow (List.replicate M 0)) 3)) (some ⟨W.heap.size, 0, none⟩) M (List.replicate M 0) from
    ⟨hW.trans ((alloc_below W _).mono hW.size), by simp, by unfold maxLen; omega, fun _ => ⟨_, 0, rfl, fun i hi => by rw [Nat.zero_add]; exact (Blk.new W _ _).cell i _ (iRow_at _ i (by simp; omega))⟩⟩))
  clear ha hp
  by_cases hn : 20 < n
  · have HR0 := Lib.hid (show rightB L (List.replicate 20 0) = false from dec_f (fun h => by have := h.1.2.1; have := HLN.out; omega))
    have hmk : ∀ W : World, (Instr.makeSlice 24 (.int .i64 20) (.int .i64 20)).run Try.prog W = .ok (.slice (some ⟨W.heap.size, 0, none⟩) 20 20) (W.alloc (.cells (iRow (List.replicate 20 0)) 3)) := fun W => run_mkI 20 (by omega) W
    go_enter Try.func6, Try.ntmps6
    go_wp2_with fail
    refine HAW.out.mono ?_
    rintro e w1 ⟨rfl, hb1⟩
    have HB := Lib.hid hb1
    clear hb1
    have HZ := Lib.hid (HZR.out 20 (by omega) w1 HB.out)
    have HRX := Lib.hid (right_any A n cap L (some ⟨w1.heap.size, 0, none⟩) 20 20 (List.replicate 20 0) _ (HA.out _ HZ.out.1) HZ.out.2)
    rw [HR0.out] at HRX
    go_wp2_with fail
    refine HRX.out.mono ?_
    rintro e w2 ⟨rfl, hb2⟩
    have HB := Lib.hid (HZ.out.1.trans (hb2.mono HZ.out.1.size))
    clear hb2
    go_wp2
    go_ret
    exact ⟨rfl, HB.out⟩
  have hmk := fun W => run_mkI n (by omega) W
  by_cases hr0 : rightP L (List.replicate n 0)
  · have HR0 := Lib.hid (show rightB L (List.replicate n 0) = true from dec_t hr0)
    have HRP0 := Lib.hid hr0
    have hn8 : n ≤ 8 := by have := hr0.1.2.1; have := HLN.out; omega
    clear hr0
    go_enter Try.func6, Try.ntmps6
    go_wp2_with fail
    refine HAW.out.mono ?_
    rintro e w1 ⟨rfl, hb1⟩
    have HB := Lib.hid hb1
    clear hb1
    have HZ := Lib.hid (HZR.out n (by omega) w1 HB.out)
    have HRX := Lib.hid (right_any A n cap L (some ⟨w1.heap.size, 0, none⟩) n n (List.replicate n 0) _ (HA.out _ HZ.out.1) HZ.out.2)
    rw [HR0.out] at HRX
    go_wp2_with fail
    refine HRX.out.mono ?_
    rintro e w2 ⟨rfl, hb2⟩
    have HBS := Lib.hid (HZ.out.1.trans (hb2.mono HZ.out.1.size))
    have HRS0 := Lib.hid (HZ.out.2.below hb2)
    clear hb2
    go_wp2
    go_loopw [6, 7, 8] (fun v r i wr => ∃ (k : Nat) (SA : Option Addr) (sc : Nat) (S : List Int), k ≤ ln ∧ i = .int .i64 (k : Int) ∧ v = .slice SA n sc ∧ r = .bool true ∧ rightP L S ∧ RdI wr SA n S ∧ Below w.heap.size w wr) (fun _ _ i _ => ln - (intOf i).toNat)
    case atStart => exact ⟨0, _, _, _, by omega, rfl, rfl, rfl, HRP0.out, HRS0.out, HBS.out⟩
    case round =>
      obtain ⟨k, SA, sc, S, hk, rfl, rfl, rfl, hrp, hrs, hbw⟩ := hrel
      have HRP1 := Lib.hid hrp
      have HRS := Lib.hid hrs
      have HBW := Lib.hid hbw
      clear hrp hrs hbw HRP0 HRS0 HRX HZ HR0
      by_cases hlt : k < ln ∧ k < 100
      · obtain ⟨hl1, hl2⟩ := hlt
        obtain ⟨pb, poff, rfl, hcell⟩ := (HPP.out _ HBW.out).2.2 (by omega)
        obtain ⟨hc0, hc1⟩ := hcell k hl1
        have HC := Lib.hid hcell
        clear hcell
        generalize (ps.getD k (0, 0)).1 = x at *
        generalize (ps.getD k (0, 0)).2 = y at *
        have k0 : (0 : Int) ≤ (k : Int) := by omega
        have k1 : (k : Int) < (ln : Int) := by omega
        have k2 : (k : Int) < 100 := by omega
        by_cases hy : 0 < y
        · have HS := Lib.hid (sell_any A n cap L SA n sc S x y wr.drew (HA.out _ HBW.out.drew) (HRS.out.below (below_dr wr 1)))
          have HK := Lib.hid (fun h => sell_right (L := L) (S := S) (c := x) (m := y) h)
          have HCS := Lib.hid (sellE_cases L S x y)
          generalize sellL L S x y = K at *
          generalize sellE L S x y = E at *
          go_wp2_with fail
          go_region_held3 (fun w' => w'.cell? ⟨pb, poff + k * 2, none⟩ = some (.int .i64 x) ∧ w'.cell? ⟨pb, poff + k * 2 + 1, none⟩ = some (.int .i64 y)) (first | exact ⟨by assumption, by assumption⟩ | go_keep) ((go_at_call 18; refine HS.out.mono ?_; rintro e w3 ⟨B3, c3, rfl, hr3, hb3⟩; have HR3 := Lib.hid hr3; have HB3 := Lib.hid (show Below wr.heap.size wr w3 from (below_dr wr 1).trans (hb3.mono (below_dr wr 1).size)); have d0 : w3.cell? ⟨pb, poff + k * 2, none⟩ = some (.int .i64 x) := (HB3.out.cell (p := ⟨pb, poff + k * 2, none⟩) (lt_of_cell hc0)).trans hc0; have d1 : w3.cell? ⟨pb, poff + k * 2 + 1, none⟩ = some (.int .i64 y) := (HB3.out.cell (p := ⟨pb, poff + k * 2 + 1, none⟩) (lt_of_cell hc1)).trans hc1; clear hr3 hb3))
          all_goals
            have HBC := Lib.hid (HBW.out.trans (HB3.out.mono HBW.out.size))
            rcases (show E = 0 ∨ ¬ E = 0 by omega) with rfl | hE0
            · have HRP := Lib.hid (HK.out rfl)
              have HKL := Lib.hid (show K.length = n by have := rightP_len HRP.out; have := HLN.out; omega)
              have HRT := Lib.hid (show RdI w3 B3 n K by have := HR3.out; rw [HKL.out] at this; exact this)
              rw [HKL.out]
              clear d0 d1 hc0 hc1 HS HK HCS HR3 HRP1
              have HLEN := Lib.hid (show L.length = n from HLN.out)
              have HRX := Lib.hid (right_any A n cap L B3 n c3 K w3 (HA.out _ HBC.out) HRT.out)
              rw [show rightB L K = true from dec_t HRP.out] at HRX
              go_wp2_with fail
              refine HRX.out.mono ?_
              rintro e w5 ⟨rfl, hb5⟩
              have HRT5 := Lib.hid (HRT.out.below hb5)
              have HB5 := Lib.hid (HBC.out.trans (hb5.mono HBC.out.size))
              clear hb5
              go_wp2
              go_loopw [11, 12] (fun bf i wr2 => ∃ k : Nat, ∃ p : Int, k ≤ n ∧ i = .int .i64 (k : Int) ∧ bf = .int .i64 p ∧ (∀ j, j < n → k ≤ j → lft L K j ≤ p) ∧ Below w5.heap.size w5 wr2) (fun _ i _ => n - (intOf i).toNat)
              case atStart => exact ⟨0, 10000, by omega, rfl, rfl, fun j hj _ => (lft_bd HRP.out j (by rw [HLEN.out]; exact hj)).2, Below.refl _ _⟩
              case round =>
                obtain ⟨k2, p, hk2, rfl, rfl, hall, hbi⟩ := hrel
                have HBI := Lib.hid (HB5.out.trans (hbi.mono HB5.out.size))
                have HBQ := Lib.hid hbi
                have HALL := Lib.hid hall
                clear hbi hall
                by_cases hlt2 : k2 < n
                · have hv0 := lft_bd HRP.out k2 (by rw [HLEN.out]; exact hlt2)
                  have hvp := HALL.out k2 hlt2 (Nat.le_refl _)
                  have HSE := Lib.hid (sellE_left HRP.out (k := k2) (by rw [HLEN.out]; exact hlt2))
                  have HNX := Lib.hid (fun j (h1 : j < n) (h2 : k2 + 1 ≤ j) => (show lft L K j ≤ lft L K k2 from mn_down (rm L K) (by omega)))
                  have hP : hasP L K (k2 : Int) := ⟨HRP.out, by omega, by rw [HLEN.out]; omega⟩
                  have HLV := Lib.hid (fun (W : World) (h1 : Below w.heap.size w W) (h2 : RdI W B3 n K) => left_any A n cap L B3 n c3 K (k2 : Int) W (HA.out _ h1) h2)
                  rw [lftV_pos hP, lftE_pos hP, Int.toNat_natCast] at HLV
                  have HSL := Lib.hid (fun (d : Int) (W : World) (h1 : Below w.heap.size w W) (h2 : RdI W B3 n K) => sell_any A n cap L B3 n c3 K (k2 : Int) d W (HA.out _ h1) h2)
                  unfold Tup at HLV
                  clear hP
                  generalize hV : lft L K k2 = V at *
                  have HV := Lib.hid hV
                  clear hV
                  have hw1 : V + 1 ≤ 10001 := by omega
                  have hnp : ¬ p < V := by omega
                  obtain ⟨e1, he1⟩ : ∃ e1, sellE L K (k2 : Int) V = e1 := ⟨_, rfl⟩
                  obtain ⟨e2, he2⟩ : ∃ e2, sellE L K (k2 : Int) (V + 1) = e2 := ⟨_, rfl⟩
                  rw [he1, he2] at HSE
                  have HE1 := Lib.hid he1
                  have HE2 := Lib.hid he2
                  clear he1 he2
                  have hcase : (¬ 0 < V ∧ V < 10000 ∧ e2 = 3) ∨ (0 < V ∧ V < 10000 ∧ e1 = 0 ∧ e2 = 3) ∨ (0 < V ∧ ¬ V < 10000 ∧ e1 = 0) := by
                    by_cases g1 : 0 < V
                    · by_cases g2 : V < 10000
                      · exact .inr (.inl ⟨g1, g2, HSE.out.1 g1, HSE.out.2 g2⟩)
                      · exact .inr (.inr ⟨g1, g2, HSE.out.1 g1⟩)
                    · exact .inl ⟨g1, by omega, HSE.out.2 (by omega)⟩
                  clear HSE
                  have HCASE := Lib.hid hcase
                  clear hcase
                  go_wp2_with fail
                  refine (HLV.out _ HBI.out (HRT5.out.below HBQ.out)).mono ?_
                  rintro e w6 ⟨rfl, hb6⟩
                  have HBI := Lib.hid (HBI.out.trans (hb6.mono HBI.out.size))
                  have HBQ := Lib.hid (HBQ.out.trans (hb6.mono HBQ.out.size))
                  clear hb6
                  go_wp2_with fail
                  refine (HSL.out _ _ HBI.out (HRT5.out.below HBQ.out)).mono ?_
                  rintro e w7 ⟨B7, c7, rfl, hr7, hb7⟩
                  have HBI := Lib.hid (HBI.out.trans (hb7.mono HBI.out.size))
                  have HBQ := Lib.hid (HBQ.out.trans (hb7.mono HBQ.out.size))
                  clear hb7 hr7
                  rw [HE1.out]
                  go_wp2_with fail
                  refine (HSL.out _ _ HBI.out (HRT5.out.below HBQ.out)).mono ?_
                  rintro e w8 ⟨B8, c8, rfl, hr8, hb8⟩
                  have HBI := Lib.hid (HBI.out.trans (hb8.mono HBI.out.size))
                  have HBQ := Lib.hid (HBQ.out.trans (hb8.mono HBQ.out.size))
                  clear hb8 hr8
                  rw [HE2.out]
                  rcases HCASE.out with ⟨g1, g2, rfl⟩ | ⟨g1, g2, rfl, rfl⟩ | ⟨g1, g2, rfl⟩
                  all_goals
                    go_wp2
                    go_roundw
                    case rel => exact ⟨k2 + 1, _, by omega, by go_num, rfl, HNX.out, HBQ.out⟩
                    case measure => simp [intOf]; omega
                · obtain rfl : k2 = n := by omega
                  go_wp2
                  go_roundw
                  case rel => exact ⟨k + 1, B3, c3, K, by omega, by go_num, rfl, rfl, HRP.out, HRT5.out.below HBQ.out, HBI.out⟩
                  case measure => simp [intOf]; omega
            · have hE1 : (E == 0) = false := by simpa using hE0
              have hE2 : decide (E = 0) = false := decide_eq_false hE0
              have HRP := Lib.hid HRP1.out
              have HRT := Lib.hid (HRS.out.below HB3.out)
              clear d0 d1 hc0 hc1 HS HK HCS HR3
              have HLEN := Lib.hid (show L.length = n from HLN.out)
              have HRX := Lib.hid (right_any A n cap L SA n sc S w3 (HA.out _ HBC.out) HRT.out)
              rw [show rightB L S = true from dec_t HRP.out] at HRX
              go_wp2_with fail
              refine HRX.out.mono ?_
              rintro e w5 ⟨rfl, hb5⟩
              have HRT5 := Lib.hid (HRT.out.below hb5)
              have HB5 := Lib.hid (HBC.out.trans (hb5.mono HBC.out.size))
              clear hb5
              go_wp2
              go_loopw [11, 12] (fun bf i wr2 => ∃ k : Nat, ∃ p : Int, k ≤ n ∧ i = .int .i64 (k : Int) ∧ bf = .int .i64 p ∧ (∀ j, j < n → k ≤ j → lft L S j ≤ p) ∧ Below w5.heap.size w5 wr2) (fun _ i _ => n - (intOf i).toNat)
              case atStart => exact ⟨0, 10000, by omega, rfl, rfl, fun j hj _ => (lft_bd HRP.out j (by rw [HLEN.out]; exact hj)).2, Below.refl _ _⟩
              case round =>
                obtain ⟨k2, p, hk2, rfl, rfl, hall, hbi⟩ := hrel
                have HBI := Lib.hid (HB5.out.trans (hbi.mono HB5.out.size))
                have HBQ := Lib.hid hbi
                have HALL := Lib.hid hall
                clear hbi hall
                by_cases hlt2 : k2 < n
                · have hv0 := lft_bd HRP.out k2 (by rw [HLEN.out]; exact hlt2)
                  have hvp := HALL.out k2 hlt2 (Nat.le_refl _)
                  have HSE := Lib.hid (sellE_left HRP.out (k := k2) (by rw [HLEN.out]; exact hlt2))
                  have HNX := Lib.hid (fun j (h1 : j < n) (h2 : k2 + 1 ≤ j) => (show lft L S j ≤ lft L S k2 from mn_down (rm L S) (by omega)))
                  have hP : hasP L S (k2 : Int) := ⟨HRP.out, by omega, by rw [HLEN.out]; omega⟩
                  have HLV := Lib.hid (fun (W : World) (h1 : Below w.heap.size w W) (h2 : RdI W SA n S) => left_any A n cap L SA n sc S (k2 : Int) W (HA.out _ h1) h2)
                  rw [lftV_pos hP, lftE_pos hP, Int.toNat_natCast] at HLV
                  have HSL := Lib.hid (fun (d : Int) (W : World) (h1 : Below w.heap.size w W) (h2 : RdI W SA n S) => sell_any A n cap L SA n sc S (k2 : Int) d W (HA.out _ h1) h2)
                  unfold Tup at HLV
                  clear hP
                  generalize hV : lft L S k2 = V at *
                  have HV := Lib.hid hV
                  clear hV
                  have hw1 : V + 1 ≤ 10001 := by omega
                  have hnp : ¬ p < V := by omega
                  obtain ⟨e1, he1⟩ : ∃ e1, sellE L S (k2 : Int) V = e1 := ⟨_, rfl⟩
                  obtain ⟨e2, he2⟩ : ∃ e2, sellE L S (k2 : Int) (V + 1) = e2 := ⟨_, rfl⟩
                  rw [he1, he2] at HSE
                  have HE1 := Lib.hid he1
                  have HE2 := Lib.hid he2
                  clear he1 he2
                  have hcase : (¬ 0 < V ∧ V < 10000 ∧ e2 = 3) ∨ (0 < V ∧ V < 10000 ∧ e1 = 0 ∧ e2 = 3) ∨ (0 < V ∧ ¬ V < 10000 ∧ e1 = 0) := by
                    by_cases g1 : 0 < V
                    · by_cases g2 : V < 10000
                      · exact .inr (.inl ⟨g1, g2, HSE.out.1 g1, HSE.out.2 g2⟩)
                      · exact .inr (.inr ⟨g1, g2, HSE.out.1 g1⟩)
                    · exact .inl ⟨g1, by omega, HSE.out.2 (by omega)⟩
                  clear HSE
                  have HCASE := Lib.hid hcase
                  clear hcase
                  go_wp2_with fail
                  refine (HLV.out _ HBI.out (HRT5.out.below HBQ.out)).mono ?_
                  rintro e w6 ⟨rfl, hb6⟩
                  have HBI := Lib.hid (HBI.out.trans (hb6.mono HBI.out.size))
                  have HBQ := Lib.hid (HBQ.out.trans (hb6.mono HBQ.out.size))
                  clear hb6
                  go_wp2_with fail
                  refine (HSL.out _ _ HBI.out (HRT5.out.below HBQ.out)).mono ?_
                  rintro e w7 ⟨B7, c7, rfl, hr7, hb7⟩
                  have HBI := Lib.hid (HBI.out.trans (hb7.mono HBI.out.size))
                  have HBQ := Lib.hid (HBQ.out.trans (hb7.mono HBQ.out.size))
                  clear hb7 hr7
                  rw [HE1.out]
                  go_wp2_with fail
                  refine (HSL.out _ _ HBI.out (HRT5.out.below HBQ.out)).mono ?_
                  rintro e w8 ⟨B8, c8, rfl, hr8, hb8⟩
                  have HBI := Lib.hid (HBI.out.trans (hb8.mono HBI.out.size))
                  have HBQ := Lib.hid (HBQ.out.trans (hb8.mono HBQ.out.size))
                  clear hb8 hr8
                  rw [HE2.out]
                  rcases HCASE.out with ⟨g1, g2, rfl⟩ | ⟨g1, g2, rfl, rfl⟩ | ⟨g1, g2, rfl⟩
                  all_goals
                    go_wp2
                    go_roundw
                    case rel => exact ⟨k2 + 1, _, by omega, by go_num, rfl, HNX.out, HBQ.out⟩
                    case measure => simp [intOf]; omega
                · obtain rfl : k2 = n := by omega
                  go_wp2
                  go_roundw
                  case rel => exact ⟨k + 1, SA, sc, S, by omega, by go_num, rfl, rfl, HRP.out, HRT5.out.below HBQ.out, HBI.out⟩
                  case measure => simp [intOf]; omega
        · by_cases hy2 : -20000 < y
          · obtain ⟨z, hz⟩ : ∃ z, -y = z := ⟨_, rfl⟩
            have e9 : IntKind.i64.wrap (-y) = z := (wrapI (by omega)).trans hz
            have hz1 : -9223372036854775808 ≤ z ∧ z ≤ 9223372036854775807 := by omega
            clear hz
            have HS := Lib.hid (back_any A n cap L SA n sc S x z wr.drew (HA.out _ HBW.out.drew) (HRS.out.below (below_dr wr 1)) hz1)
            have HK := Lib.hid (fun h => back_right (L := L) (S := S) (c := x) (m := z) h)
            have HCS := Lib.hid (backE_cases L S x z)
            generalize backL L S x z = K at *
            generalize backE L S x z = E at *
            go_wp2_with fail
            go_region_held3 (fun w' => w'.cell? ⟨pb, poff + k * 2, none⟩ = some (.int .i64 x) ∧ w'.cell? ⟨pb, poff + k * 2 + 1, none⟩ = some (.int .i64 y)) (first | exact ⟨by assumption, by assumption⟩ | go_keep) ((go_at_call 20; refine HS.out.mono ?_; rintro e w3 ⟨B3, c3, rfl, hr3, hb3⟩; have HR3 := Lib.hid hr3; have HB3 := Lib.hid (show Below wr.heap.size wr w3 from (below_dr wr 1).trans (hb3.mono (below_dr wr 1).size)); have d0 : w3.cell? ⟨pb, poff + k * 2, none⟩ = some (.int .i64 x) := (HB3.out.cell (p := ⟨pb, poff + k * 2, none⟩) (lt_of_cell hc0)).trans hc0; have d1 : w3.cell? ⟨pb, poff + k * 2 + 1, none⟩ = some (.int .i64 y) := (HB3.out.cell (p := ⟨pb, poff + k * 2 + 1, none⟩) (lt_of_cell hc1)).trans hc1; clear hr3 hb3))
            all_goals
              have HBC := Lib.hid (HBW.out.trans (HB3.out.mono HBW.out.size))
              rcases (show E = 0 ∨ ¬ E = 0 by omega) with rfl | hE0
              · have HRP := Lib.hid (HK.out rfl)
                have HKL := Lib.hid (show K.length = n by have := rightP_len HRP.out; have := HLN.out; omega)
                have HRT := Lib.hid (show RdI w3 B3 n K by have := HR3.out; rw [HKL.out] at this; exact this)
                rw [HKL.out]
                clear d0 d1 hc0 hc1 HS HK HCS HR3 HRP1
                have HLEN := Lib.hid (show L.length = n from HLN.out)
                have HRX := Lib.hid (right_any A n cap L B3 n c3 K w3 (HA.out _ HBC.out) HRT.out)
                rw [show rightB L K = true from dec_t HRP.out] at HRX
                go_wp2_with fail
                refine HRX.out.mono ?_
                rintro e w5 ⟨rfl, hb5⟩
                have HRT5 := Lib.hid (HRT.out.below hb5)
                have HB5 := Lib.hid (HBC.out.trans (hb5.mono HBC.out.size))
                clear hb5
                go_wp2
                go_loopw [11, 12] (fun bf i wr2 => ∃ k : Nat, ∃ p : Int, k ≤ n ∧ i = .int .i64 (k : Int) ∧ bf = .int .i64 p ∧ (∀ j, j < n → k ≤ j → lft L K j ≤ p) ∧ Below w5.heap.size w5 wr2) (fun _ i _ => n - (intOf i).toNat)
                case atStart => exact ⟨0, 10000, by omega, rfl, rfl, fun j hj _ => (lft_bd HRP.out j (by rw [HLEN.out]; exact hj)).2, Below.refl _ _⟩
                case round =>
                  obtain ⟨k2, p, hk2, rfl, rfl, hall, hbi⟩ := hrel
                  have HBI := Lib.hid (HB5.out.trans (hbi.mono HB5.out.size))
                  have HBQ := Lib.hid hbi
                  have HALL := Lib.hid hall
                  clear hbi hall
                  by_cases hlt2 : k2 < n
                  · have hv0 := lft_bd HRP.out k2 (by rw [HLEN.out]; exact hlt2)
                    have hvp := HALL.out k2 hlt2 (Nat.le_refl _)
                    have HSE := Lib.hid (sellE_left HRP.out (k := k2) (by rw [HLEN.out]; exact hlt2))
                    have HNX := Lib.hid (fun j (h1 : j < n) (h2 : k2 + 1 ≤ j) => (show lft L K j ≤ lft L K k2 from mn_down (rm L K) (by omega)))
                    have hP : hasP L K (k2 : Int) := ⟨HRP.out, by omega, by rw [HLEN.out]; omega⟩
                    have HLV := Lib.hid (fun (W : World) (h1 : Below w.heap.size w W) (h2 : RdI W B3 n K) => left_any A n cap L B3 n c3 K (k2 : Int) W (HA.out _ h1) h2)
                    rw [lftV_pos hP, lftE_pos hP, Int.toNat_natCast] at HLV
                    have HSL := Lib.hid (fun (d : Int) (W : World) (h1 : Below w.heap.size w W) (h2 : RdI W B3 n K) => sell_any A n cap L B3 n c3 K (k2 : Int) d W (HA.out _ h1) h2)
                    unfold Tup at HLV
                    clear hP
                    generalize hV : lft L K k2 = V at *
                    have HV := Lib.hid hV
                    clear hV
                    have hw1 : V + 1 ≤ 10001 := by omega
                    have hnp : ¬ p < V := by omega
                    obtain ⟨e1, he1⟩ : ∃ e1, sellE L K (k2 : Int) V = e1 := ⟨_, rfl⟩
                    obtain ⟨e2, he2⟩ : ∃ e2, sellE L K (k2 : Int) (V + 1) = e2 := ⟨_, rfl⟩
                    rw [he1, he2] at HSE
                    have HE1 := Lib.hid he1
                    have HE2 := Lib.hid he2
                    clear he1 he2
                    have hcase : (¬ 0 < V ∧ V < 10000 ∧ e2 = 3) ∨ (0 < V ∧ V < 10000 ∧ e1 = 0 ∧ e2 = 3) ∨ (0 < V ∧ ¬ V < 10000 ∧ e1 = 0) := by
                      by_cases g1 : 0 < V
                      · by_cases g2 : V < 10000
                        · exact .inr (.inl ⟨g1, g2, HSE.out.1 g1, HSE.out.2 g2⟩)
                        · exact .inr (.inr ⟨g1, g2, HSE.out.1 g1⟩)
                      · exact .inl ⟨g1, by omega, HSE.out.2 (by omega)⟩
                    clear HSE
                    have HCASE := Lib.hid hcase
                    clear hcase
                    go_wp2_with fail
                    refine (HLV.out _ HBI.out (HRT5.out.below HBQ.out)).mono ?_
                    rintro e w6 ⟨rfl, hb6⟩
                    have HBI := Lib.hid (HBI.out.trans (hb6.mono HBI.out.size))
                    have HBQ := Lib.hid (HBQ.out.trans (hb6.mono HBQ.out.size))
                    clear hb6
                    go_wp2_with fail
                    refine (HSL.out _ _ HBI.out (HRT5.out.below HBQ.out)).mono ?_
                    rintro e w7 ⟨B7, c7, rfl, hr7, hb7⟩
                    have HBI := Lib.hid (HBI.out.trans (hb7.mono HBI.out.size))
                    have HBQ := Lib.hid (HBQ.out.trans (hb7.mono HBQ.out.size))
                    clear hb7 hr7
                    rw [HE1.out]
                    go_wp2_with fail
                    refine (HSL.out _ _ HBI.out (HRT5.out.below HBQ.out)).mono ?_
                    rintro e w8 ⟨B8, c8, rfl, hr8, hb8⟩
                    have HBI := Lib.hid (HBI.out.trans (hb8.mono HBI.out.size))
                    have HBQ := Lib.hid (HBQ.out.trans (hb8.mono HBQ.out.size))
                    clear hb8 hr8
                    rw [HE2.out]
                    rcases HCASE.out with ⟨g1, g2, rfl⟩ | ⟨g1, g2, rfl, rfl⟩ | ⟨g1, g2, rfl⟩
                    all_goals
                      go_wp2
                      go_roundw
                      case rel => exact ⟨k2 + 1, _, by omega, by go_num, rfl, HNX.out, HBQ.out⟩
                      case measure => simp [intOf]; omega
                  · obtain rfl : k2 = n := by omega
                    go_wp2
                    go_roundw
                    case rel => exact ⟨k + 1, B3, c3, K, by omega, by go_num, rfl, rfl, HRP.out, HRT5.out.below HBQ.out, HBI.out⟩
                    case measure => simp [intOf]; omega
              · have hE1 : (E == 0) = false := by simpa using hE0
                have hE2 : decide (E = 0) = false := decide_eq_false hE0
                have HRP := Lib.hid HRP1.out
                have HRT := Lib.hid (HRS.out.below HB3.out)
                clear d0 d1 hc0 hc1 HS HK HCS HR3
                have HLEN := Lib.hid (show L.length = n from HLN.out)
                have HRX := Lib.hid (right_any A n cap L SA n sc S w3 (HA.out _ HBC.out) HRT.out)
                rw [show rightB L S = true from dec_t HRP.out] at HRX
                go_wp2_with fail
                refine HRX.out.mono ?_
                rintro e w5 ⟨rfl, hb5⟩
                have HRT5 := Lib.hid (HRT.out.below hb5)
                have HB5 := Lib.hid (HBC.out.trans (hb5.mono HBC.out.size))
                clear hb5
                go_wp2
                go_loopw [11, 12] (fun bf i wr2 => ∃ k : Nat, ∃ p : Int, k ≤ n ∧ i = .int .i64 (k : Int) ∧ bf = .int .i64 p ∧ (∀ j, j < n → k ≤ j → lft L S j ≤ p) ∧ Below w5.heap.size w5 wr2) (fun _ i _ => n - (intOf i).toNat)
                case atStart => exact ⟨0, 10000, by omega, rfl, rfl, fun j hj _ => (lft_bd HRP.out j (by rw [HLEN.out]; exact hj)).2, Below.refl _ _⟩
                case round =>
                  obtain ⟨k2, p, hk2, rfl, rfl, hall, hbi⟩ := hrel
                  have HBI := Lib.hid (HB5.out.trans (hbi.mono HB5.out.size))
                  have HBQ := Lib.hid hbi
                  have HALL := Lib.hid hall
                  clear hbi hall
                  by_cases hlt2 : k2 < n
                  · have hv0 := lft_bd HRP.out k2 (by rw [HLEN.out]; exact hlt2)
                    have hvp := HALL.out k2 hlt2 (Nat.le_refl _)
                    have HSE := Lib.hid (sellE_left HRP.out (k := k2) (by rw [HLEN.out]; exact hlt2))
                    have HNX := Lib.hid (fun j (h1 : j < n) (h2 : k2 + 1 ≤ j) => (show lft L S j ≤ lft L S k2 from mn_down (rm L S) (by omega)))
                    have hP : hasP L S (k2 : Int) := ⟨HRP.out, by omega, by rw [HLEN.out]; omega⟩
                    have HLV := Lib.hid (fun (W : World) (h1 : Below w.heap.size w W) (h2 : RdI W SA n S) => left_any A n cap L SA n sc S (k2 : Int) W (HA.out _ h1) h2)
                    rw [lftV_pos hP, lftE_pos hP, Int.toNat_natCast] at HLV
                    have HSL := Lib.hid (fun (d : Int) (W : World) (h1 : Below w.heap.size w W) (h2 : RdI W SA n S) => sell_any A n cap L SA n sc S (k2 : Int) d W (HA.out _ h1) h2)
                    unfold Tup at HLV
                    clear hP
                    generalize hV : lft L S k2 = V at *
                    have HV := Lib.hid hV
                    clear hV
                    have hw1 : V + 1 ≤ 10001 := by omega
                    have hnp : ¬ p < V := by omega
                    obtain ⟨e1, he1⟩ : ∃ e1, sellE L S (k2 : Int) V = e1 := ⟨_, rfl⟩
                    obtain ⟨e2, he2⟩ : ∃ e2, sellE L S (k2 : Int) (V + 1) = e2 := ⟨_, rfl⟩
                    rw [he1, he2] at HSE
                    have HE1 := Lib.hid he1
                    have HE2 := Lib.hid he2
                    clear he1 he2
                    have hcase : (¬ 0 < V ∧ V < 10000 ∧ e2 = 3) ∨ (0 < V ∧ V < 10000 ∧ e1 = 0 ∧ e2 = 3) ∨ (0 < V ∧ ¬ V < 10000 ∧ e1 = 0) := by
                      by_cases g1 : 0 < V
                      · by_cases g2 : V < 10000
                        · exact .inr (.inl ⟨g1, g2, HSE.out.1 g1, HSE.out.2 g2⟩)
                        · exact .inr (.inr ⟨g1, g2, HSE.out.1 g1⟩)
                      · exact .inl ⟨g1, by omega, HSE.out.2 (by omega)⟩
                    clear HSE
                    have HCASE := Lib.hid hcase
                    clear hcase
                    go_wp2_with fail
                    refine (HLV.out _ HBI.out (HRT5.out.below HBQ.out)).mono ?_
                    rintro e w6 ⟨rfl, hb6⟩
                    have HBI := Lib.hid (HBI.out.trans (hb6.mono HBI.out.size))
                    have HBQ := Lib.hid (HBQ.out.trans (hb6.mono HBQ.out.size))
                    clear hb6
                    go_wp2_with fail
                    refine (HSL.out _ _ HBI.out (HRT5.out.below HBQ.out)).mono ?_
                    rintro e w7 ⟨B7, c7, rfl, hr7, hb7⟩
                    have HBI := Lib.hid (HBI.out.trans (hb7.mono HBI.out.size))
                    have HBQ := Lib.hid (HBQ.out.trans (hb7.mono HBQ.out.size))
                    clear hb7 hr7
                    rw [HE1.out]
                    go_wp2_with fail
                    refine (HSL.out _ _ HBI.out (HRT5.out.below HBQ.out)).mono ?_
                    rintro e w8 ⟨B8, c8, rfl, hr8, hb8⟩
                    have HBI := Lib.hid (HBI.out.trans (hb8.mono HBI.out.size))
                    have HBQ := Lib.hid (HBQ.out.trans (hb8.mono HBQ.out.size))
                    clear hb8 hr8
                    rw [HE2.out]
                    rcases HCASE.out with ⟨g1, g2, rfl⟩ | ⟨g1, g2, rfl, rfl⟩ | ⟨g1, g2, rfl⟩
                    all_goals
                      go_wp2
                      go_roundw
                      case rel => exact ⟨k2 + 1, _, by omega, by go_num, rfl, HNX.out, HBQ.out⟩
                      case measure => simp [intOf]; omega
                  · obtain rfl : k2 = n := by omega
                    go_wp2
                    go_roundw
                    case rel => exact ⟨k + 1, SA, sc, S, by omega, by go_num, rfl, rfl, HRP.out, HRT5.out.below HBQ.out, HBI.out⟩
                    case measure => simp [intOf]; omega
          · go_wp2
            go_roundw
            case rel => exact ⟨k + 1, SA, sc, S, by omega, by go_num, rfl, rfl, HRP1.out, HRS.out, HBW.out⟩
            case measure => simp [intOf]; omega
      · by_cases hl1 : k < ln
        · have hl2 : ¬ k < 100 := fun h => hlt ⟨hl1, h⟩
          clear hlt
          go_wp2
          go_ret
          exact ⟨rfl, HBW.out⟩
        · clear hlt
          go_wp2
          go_ret
          exact ⟨rfl, HBW.out⟩
  · have HR0 := Lib.hid (show rightB L (List.replicate n 0) = false from dec_f hr0)
    clear hr0
    go_enter Try.func6, Try.ntmps6
    go_wp2_with fail
    refine HAW.out.mono ?_
    rintro e w1 ⟨rfl, hb1⟩
    have HB := Lib.hid hb1
    clear hb1
    have HZ := Lib.hid (HZR.out n (by omega) w1 HB.out)
    have HRX := Lib.hid (right_any A n cap L (some ⟨w1.heap.size, 0, none⟩) n n (List.replicate n 0) _ (HA.out _ HZ.out.1) HZ.out.2)
    rw [HR0.out] at HRX
    go_wp2_with fail
    refine HRX.out.mono ?_
    rintro e w2 ⟨rfl, hb2⟩
    have HB := Lib.hid (HZ.out.1.trans (hb2.mono HZ.out.1.size))
    clear hb2
    go_wp2
    go_ret
    exact ⟨by simp; omega, HB.out⟩
end Go.Proofs.Ytofbioefckdmbaa.Ne
