/-
  Layer 9, that the law QuorumMeets answers true. Conditions: the lists can be read.
-/
import Derived.Test.YtcnligkndficoaaQuLn
import Derived.Test.YtcnligkndficoaaQuLm
import Derived.Test.YtcnligkndficoaaQuV
import Derived.Test.YtcnligkndficoaaQuG
import Derived.Test.YtcnligkndficoaaQuR
import Derived.Deep.RegionHeld3
import Derived.Deep.RegionWith
namespace Go.Proofs.Ytcnligkndficoaa.Qu
open Go.RowKit Go.Proofs.Ytcnligkndficoaa.Fld
set_option linter.unusedVariables false

theorem wins_cnt {vs ls l : List Int} (h : winsG vs ls l = true) : vs.length / 2 + 1 ≤ vs.countP (hasI l) := by
  unfold winsG at h
  simp only [Bool.and_eq_true, decide_eq_true_eq] at h
  exact h.2
set_option maxRecDepth 100000 in
set_option maxHeartbeats 6400000 in
theorem meets_walk (VA : Option Addr) (vn vc : Nat) (vs : List Int) (LA : Option Addr) (ln lc : Nat) (ls : List Int) (kind x : Int) (SA : Option Addr) (sn sc : Nat) (sl : List Int) (TA : Option Addr) (tn tc : Nat) (tl : List Int) (w : World) (hv : RdI w VA vn vs) (hl : RdI w LA ln ls) (hs : RdI w SA sn sl) (ht : RdI w TA tn tl) :
    Calls Try.prog 6 #[grpV VA vn vc LA ln lc, .agg #[.int .i64 kind, .int .i64 x], .agg #[.slice SA sn sc, .slice TA tn tc]] w fun e w' => e = .returned (.bool true) ∧ Below w.heap.size w w' := by
  have hb0 := alloc_below w (.cells #[.slice VA vn vc, .slice LA ln lc] 24)
  have hb1 : Below w.heap.size w ((w.alloc (.cells #[.slice VA vn vc, .slice LA ln lc] 24)).alloc (.cells #[.int .i64 kind, .int .i64 x] 38)) := hb0.trans ((alloc_below _ _).mono hb0.size)
  have hb2 : Below w.heap.size w (((w.alloc (.cells #[.slice VA vn vc, .slice LA ln lc] 24)).alloc (.cells #[.int .i64 kind, .int .i64 x] 38)).alloc (.cells #[.slice SA sn sc, .slice TA tn tc] 39)) := hb1.trans ((alloc_below _ _).mono hb1.size)
  have HB := Lib.hid hb2
  have HK := Lib.hid (((Blk.new w #[.slice VA vn vc, .slice LA ln lc] 24).past (.cells #[.int .i64 kind, .int .i64 x] 38)).past (.cells #[.slice SA sn sc, .slice TA tn tc] 39))
  have hp := (Blk.new (w.alloc (.cells #[.slice VA vn vc, .slice LA ln lc] 24)) #[.int .i64 kind, .int .i64 x] 38).past (.cells #[.slice SA sn sc, .slice TA tn tc] 39)
  have hq := Blk.new ((w.alloc (.cells #[.slice VA vn vc, .slice LA ln lc] 24)).alloc (.cells #[.int .i64 kind, .int .i64 x] 38)) #[.slice SA sn sc, .slice TA tn tc] 39
  rw [show (w.alloc (.cells #[.slice VA vn vc, .slice LA ln lc] 24)).heap.size = w.heap.size + 1 by simp] at hp
  rw [show ((w.alloc (.cells #[.slice VA vn vc, .slice LA ln lc] 24)).alloc (.cells #[.int .i64 kind, .int .i64 x] 38)).heap.size = w.heap.size + 2 by simp] at hq
  have HP := Lib.hid hp
  have HQ := Lib.hid hq
  have HAW := Lib.hid (awake_any (((w.alloc (.cells #[.slice VA vn vc, .slice LA ln lc] 24)).alloc (.cells #[.int .i64 kind, .int .i64 x] 38)).alloc (.cells #[.slice SA sn sc, .slice TA tn tc] 39)))
  have HVR := Lib.hid hv
  have HLR := Lib.hid hl
  have HSR := Lib.hid hs
  have HTR := Lib.hid ht
  have HVL := Lib.hid hv.1
  have hm1 := hv.2.1
  have hm2 := hl.2.1
  unfold maxLen at hm1 hm2
  clear hv hl hs ht hb0 hb1 hb2 hp hq
  unfold grpV
  go_enter Try.func6, Try.ntmps6
  go_wp2_with fail
  refine HAW.out.mono ?_
  rintro e w1 ⟨rfl, hb⟩
  have HB1 := Lib.hid (HB.out.trans (hb.mono HB.out.size))
  have K1 := Lib.hid (HK.out.below hb)
  have P1 := Lib.hid (HP.out.below hb)
  have Q1 := Lib.hid (HQ.out.below hb)
  clear hb HAW HK HP HQ HB
  have c0 := K1.out.cell 0 (.slice VA vn vc) rfl
  have c1 := K1.out.cell 1 (.slice LA ln lc) rfl
  have s0 := Q1.out.cell 0 (.slice SA sn sc) rfl
  have s1 := Q1.out.cell 1 (.slice TA tn tc) rfl
  have HFW := Lib.hid (few_any VA vn vc vs LA ln lc ls (some ⟨w1.heap.size, 0, none⟩) 2 2 [sn, tn] _ (lens_two w1 SA TA sn tn sc tc 22) (by omega) (by omega))
  have HBF := Lib.hid (alloc_below w1 (.cells #[.slice SA sn sc, .slice TA tn tc] 22))
  unfold grpV at HFW
  go_wp2_with fail
  refine HFW.out.mono ?_
  rintro e w2 ⟨rfl, hb⟩
  have HBW := Lib.hid (HBF.out.trans (hb.mono HBF.out.size))
  have HB2 := Lib.hid (HB1.out.trans (HBW.out.mono HB1.out.size))
  have K2 := Lib.hid (K1.out.below HBW.out)
  have P2 := Lib.hid (P1.out.below HBW.out)
  have Q2 := Lib.hid (Q1.out.below HBW.out)
  clear hb c0 c1 s0 s1 HFW HBF HBW K1 P1 Q1 HB1
  have c0 := K2.out.cell 0 (.slice VA vn vc) rfl
  have c1 := K2.out.cell 1 (.slice LA ln lc) rfl
  have p0 := P2.out.cell 0 (.int .i64 kind) rfl
  have p1 := P2.out.cell 1 (.int .i64 x) rfl
  cases hf : fewG vn ln [sn, tn] with
  | false =>
    go_wp2
    go_ret
    exact ⟨rfl, HB2.out⟩
  | true =>
    clear hf
    have HC1 := Lib.hid (change_any VA vn vc vs LA ln lc ls kind x w2 (HVR.out.below HB2.out) (HLR.out.below HB2.out))
    unfold grpV at HC1
    obtain ⟨r, hr⟩ : ∃ r, chG vs ls kind x = r := ⟨_, rfl⟩
    obtain ⟨us, ks, er⟩ := r
    rw [hr] at HC1
    have hcode := chG_code hr
    have HR := Lib.hid hr
    clear hr
    go_wp2_with fail
    refine HC1.out.mono ?_
    rintro e w3 ⟨A1, d1, A2, d2, rfl, h1, h2, hb⟩
    simp only at h1 h2
    have HX := Lib.hid (And.intro h1 h2)
    have HB3 := Lib.hid (HB2.out.trans (hb.mono HB2.out.size))
    have K3 := Lib.hid (K2.out.below hb)
    have Q3 := Lib.hid (Q2.out.below hb)
    clear hb h1 h2 HC1 c0 c1 p0 p1 K2 Q2 P2
    have HP3 := Lib.hid (alloc_below w3 (.cells #[.slice A1 us.length d1, .slice A2 ks.length d2] 24))
    have HB4 := Lib.hid (HB3.out.trans (HP3.out.mono HB3.out.size))
    have K4 := Lib.hid (K3.out.below HP3.out)
    have Q4 := Lib.hid (Q3.out.below HP3.out)
    have M4 := Lib.hid (Blk.new w3 #[.slice A1 us.length d1, .slice A2 ks.length d2] 24)
    have HX4 := Lib.hid (And.intro (HX.out.1.below HP3.out) (HX.out.2.below HP3.out))
    obtain ⟨n1, hn1⟩ : ∃ n, us.length = n := ⟨_, rfl⟩
    obtain ⟨n2, hn2⟩ : ∃ n, ks.length = n := ⟨_, rfl⟩
    rw [hn1, hn2] at M4 HX4 HP3 HB4 K4 Q4
    simp only [hn1, hn2]
    clear hn1 hn2 K3 Q3
    have c0 := K4.out.cell 0 (.slice VA vn vc) rfl
    have c1 := K4.out.cell 1 (.slice LA ln lc) rfl
    by_cases h0 : er = 0
    · subst h0
      clear hcode
      have s0 := Q4.out.cell 0 (.slice SA sn sc) rfl
      have HW1 := Lib.hid (wins_any VA vn vc vs LA ln lc ls SA sn sc sl _ (HVR.out.below HB4.out) (HLR.out.below HB4.out) (HSR.out.below HB4.out))
      unfold grpV at HW1
      go_wp2_with fail
      refine HW1.out.mono ?_
      rintro e w5 ⟨rfl, hb⟩
      have HB5 := Lib.hid (HB4.out.trans (hb.mono HB4.out.size))
      have K5 := Lib.hid (K4.out.below hb)
      have Q5 := Lib.hid (Q4.out.below hb)
      have M5 := Lib.hid (M4.out.below hb)
      have HX5 := Lib.hid (And.intro (HX4.out.1.below hb) (HX4.out.2.below hb))
      clear hb c0 c1 s0 HW1 K4 Q4 M4 HX4
      have m0 := M5.out.cell 0 (.slice A1 n1 d1) rfl
      have m1 := M5.out.cell 1 (.slice A2 n2 d2) rfl
      have s1 := Q5.out.cell 1 (.slice TA tn tc) rfl
      have HW2 := Lib.hid (wins_any A1 n1 d1 us A2 n2 d2 ks TA tn tc tl _ HX5.out.1 HX5.out.2 (HTR.out.below HB5.out))
      unfold grpV at HW2
      go_wp2_with fail
      refine HW2.out.mono ?_
      rintro e w6 ⟨rfl, hb⟩
      have HB6 := Lib.hid (HB5.out.trans (hb.mono HB5.out.size))
      have K6 := Lib.hid (K5.out.below hb)
      have Q6 := Lib.hid (Q5.out.below hb)
      have M6 := Lib.hid (M5.out.below hb)
      have HX6 := Lib.hid (And.intro (HX5.out.1.below hb) (HX5.out.2.below hb))
      clear hb m0 m1 s1 HW2 K5 Q5 M5 HX5
      have m0 := M6.out.cell 0 (.slice A1 n1 d1) rfl
      have m1 := M6.out.cell 1 (.slice A2 n2 d2) rfl
      have HW3 := Lib.hid (right_any A1 n1 d1 us A2 n2 d2 ks _ HX6.out.1 HX6.out.2)
      rw [made_ok HR.out] at HW3
      unfold grpV at HW3
      go_wp2_with fail
      refine HW3.out.mono ?_
      rintro e w7 ⟨rfl, hb⟩
      have HB7 := Lib.hid (HB6.out.trans (hb.mono HB6.out.size))
      have K7 := Lib.hid (K6.out.below hb)
      have Q7 := Lib.hid (Q6.out.below hb)
      have M7 := Lib.hid (M6.out.below hb)
      have HX7 := Lib.hid (And.intro (HX6.out.1.below hb) (HX6.out.2.below hb))
      clear hb m0 m1 HW3 K6 Q6 M6 HX6
      cases g1 : winsG vs ls sl with
      | false =>
        go_wp2
        go_ret
        exact ⟨rfl, HB7.out⟩
      | true =>
        cases g2 : winsG us ks tl with
        | false =>
          go_wp2
          go_ret
          exact ⟨rfl, HB7.out⟩
        | true =>
          have HEX := Lib.hid (meets_math HR.out (hasI sl) (hasI tl) (wins_cnt g1) (wins_cnt g2))
          clear g1 g2
          have HH1 := Lib.hid (fun v => has_any SA sn sc sl v w7 (HSR.out.below HB7.out))
          have HH2 := Lib.hid (fun v => has_any TA tn tc tl v w7 (HTR.out.below HB7.out))
          have HH3 := Lib.hid (fun v => has_any A1 n1 d1 us v w7 HX7.out.1)
          have HVW := Lib.hid (HVR.out.below HB7.out)
          have c0 := K7.out.cell 0 (.slice VA vn vc) rfl
          have c1 := K7.out.cell 1 (.slice LA ln lc) rfl
          have s0 := Q7.out.cell 0 (.slice SA sn sc) rfl
          have s1 := Q7.out.cell 1 (.slice TA tn tc) rfl
          have m0 := M7.out.cell 0 (.slice A1 n1 d1) rfl
          have m1 := M7.out.cell 1 (.slice A2 n2 d2) rfl
          go_wp2_with fail
          go_loopw [14] (fun i wr => ∃ k : Nat, k ≤ vn ∧ i = .int .i64 k ∧ wr = w7 ∧ ∀ j, j < k → (hasI sl (vs.getD j 0) && hasI tl (vs.getD j 0) && hasI us (vs.getD j 0)) = false) (fun i _ => vn - (intOf i).toNat)
          case atStart => exact ⟨0, Nat.zero_le _, rfl, rfl, fun j h => by omega⟩
          case round =>
            obtain ⟨k, hk, rfl, rfl, hno⟩ := hrel
            have HNO := Lib.hid hno
            clear hno
            by_cases hlt : k < vn
            · obtain ⟨b, off, rfl, hcell⟩ := HVW.out.2.2 (by omega)
              have hc := hcell k hlt
              clear hcell
              have HN2 := Lib.hid (fun (hn : (hasI sl (vs.getD k 0) && hasI tl (vs.getD k 0) && hasI us (vs.getD k 0)) = false) => show ∀ j, j < k + 1 → (hasI sl (vs.getD j 0) && hasI tl (vs.getD j 0) && hasI us (vs.getD j 0)) = false from fun j hj => by
                rcases Nat.lt_or_eq_of_le (Nat.le_of_lt_succ hj) with h1 | h1
                · exact HNO.out j h1
                · subst h1; exact hn)
              generalize vs.getD k 0 = v at *
              have Y1 := Lib.hid (HH1.out v)
              have Y2 := Lib.hid (HH2.out v)
              have Y3 := Lib.hid (HH3.out v)
              generalize hasI sl v = b1 at *
              generalize hasI tl v = b2 at *
              generalize hasI us v = b3 at *
              have j1 : (k : Int) < (vn : Int) := by omega
              have j0 : (0 : Int) ≤ (k : Int) := by omega
              go_wp2_with fail
              refine Y1.out.mono ?_
              rintro e w' ⟨rfl, rfl⟩
              go_wp2_with fail
              refine Y2.out.mono ?_
              rintro e w' ⟨rfl, rfl⟩
              go_wp2_with fail
              refine Y3.out.mono ?_
              rintro e w' ⟨rfl, rfl⟩
              by_cases hall : b1 = true ∧ b2 = true ∧ b3 = true
              · obtain ⟨rfl, rfl, rfl⟩ := hall
                go_wp2
                go_ret
                exact ⟨rfl, HB7.out⟩
              · have HN3 := Lib.hid (HN2.out (by cases b1 <;> cases b2 <;> cases b3 <;> simp at hall ⊢))
                clear HN2
                cases b1 with
                | false =>
                  go_wp2
                  go_roundw
                  case rel => exact ⟨k + 1, by omega, by go_num, trivial, HN3.out⟩
                  case measure => simp [intOf]; omega
                | true =>
                  cases b2 with
                  | false =>
                    go_wp2
                    go_roundw
                    case rel => exact ⟨k + 1, by omega, by go_num, trivial, HN3.out⟩
                    case measure => simp [intOf]; omega
                  | true =>
                    cases b3 with
                    | true => exact absurd ⟨rfl, rfl, rfl⟩ hall
                    | false =>
                      go_wp2
                      go_roundw
                      case rel => exact ⟨k + 1, by omega, by go_num, trivial, HN3.out⟩
                      case measure => simp [intOf]; omega
            · exfalso
              obtain ⟨v, hm, h1, h2, h3⟩ := HEX.out
              obtain ⟨j, hj, rfl⟩ := List.getElem_of_mem hm
              have := HNO.out j (by have := HVL.out; omega)
              rw [List.getD_eq_getElem?_getD, List.getElem?_eq_getElem hj] at this
              simp only [Option.getD_some] at this
              rw [h1, h2, (has_iff _ _).2 h3] at this
              exact absurd this (by decide)
    · have hcase : er = 1 ∨ er = 7 := by omega
      clear h0 hcode
      rcases hcase with rfl | rfl
      all_goals
        go_wp2
        go_ret
        exact ⟨rfl, HB4.out⟩
end Go.Proofs.Ytcnligkndficoaa.Qu
