/-
  Layer 13, that the law SeatTogether answers true. Conditions: the groups and the taken seats can be read.
-/
import Derived.Test.YtnmmpiddmckghaaDoorSeAw
import Derived.Test.YtnmmpiddmckghaaDoorSeBp
import Derived.Test.YtnmmpiddmckghaaDoorQuR
namespace Go.Proofs.YtnmmpiddmckghaaDoor.Se
open Go.RowKit Go.Proofs.YtnmmpiddmckghaaDoor.Qu Go.Proofs.YtnmmpiddmckghaaDoor.Fld
set_option linter.unusedVariables false

/-- what is known behind k rounds -/
def Tog (r : Int) (gs tk : List Int) (f : Int) (M k : Nat) : Prop := (∀ j, j < k → hasI tk (f + j) = false ∧ f + j < cntS r gs) ∧ ∀ j, j < k → j + 1 < M → f + j + 1 ∈ besL r gs (f + j)
theorem Tog.more {r : Int} {gs tk : List Int} {f : Int} {M k : Nat} (h : Tog r gs tk f M k) (h1 : hasI tk (f + k) = false) (h2 : f + k < cntS r gs) (h3 : k + 1 < M → hasI (besL r gs (f + k)) (f + k + 1) = true) : Tog r gs tk f M (k + 1) := by
  refine ⟨fun j hj => ?_, fun j hj hM => ?_⟩
  · rcases Nat.lt_or_eq_of_le (Nat.le_of_lt_succ hj) with h4 | h4
    · exact h.1 j h4
    · subst h4; exact ⟨h1, h2⟩
  · rcases Nat.lt_or_eq_of_le (Nat.le_of_lt_succ hj) with h4 | h4
    · exact h.2 j h4 hM
    · subst h4; exact (has_iff _ _).1 (h3 hM)
theorem Tog.all {r : Int} {gs tk : List Int} {f : Int} {M : Nat} (h : Tog r gs tk f M M) (hM : 1 ≤ M) (hf : 0 ≤ f) :
    bstE r gs tk M = 0 ∧ (bstL r gs tk M).length = M ∧ (∀ i, i + 1 < M → hasI (besL r gs ((bstL r gs tk M).getD i 0)) ((bstL r gs tk M).getD (i + 1) 0) = true) ∧ (bstL r gs tk M).getD 0 0 ≤ f := by
  obtain ⟨h1, h2, h3⟩ := best_together hM hf h.1 (fun i hi => h.2 i (by omega) hi)
  refine ⟨h1, ?_, fun i hi => (has_iff _ _).2 (h2 i hi), h3⟩
  obtain ⟨_, _, h4⟩ := bst_ok h1
  unfold bstL
  rw [if_pos h1, Int.toNat_natCast, best_len (by omega)]
set_option maxRecDepth 100000 in
set_option maxHeartbeats 6400000 in
theorem together_walk (r : Int) (A : Option Addr) (n c : Nat) (gs : List Int) (T : Option Addr) (tn tc : Nat) (tk : List Int) (f y : Int) (w : World) (hr : RdI w A n gs) (ht : RdI w T tn tk) (hf9 : -9223372036854775808 ≤ f ∧ f ≤ 9223372036854775807 ∧ -9223372036854775808 ≤ y ∧ y ≤ 9223372036854775807) :
    Calls Tryd.prog 8 #[layV r A n c, .slice T tn tc, .agg #[.int .i64 f, .int .i64 y]] w fun e w' => e = .returned (.bool true) ∧ Below w.heap.size w w' := by
  have hb0 := alloc_below w (layO r A n c)
  have HK0 := layO_blk w r A n c
  unfold layO at *
  obtain ⟨W0, hW0⟩ : ∃ W0, w.alloc (.cells #[.int .i64 r, .slice A n c] 24) = W0 := ⟨_, rfl⟩
  rw [hW0] at hb0 HK0
  have hsz : W0.heap.size = w.heap.size + 1 := by rw [← hW0]; exact Array.size_push ..
  have hb1 := alloc_below W0 (.cells #[.int .i64 f, .int .i64 y] 41)
  have HK1 := Blk.new W0 #[.int .i64 f, .int .i64 y] 41
  obtain ⟨W, hW⟩ : ∃ W, W0.alloc (.cells #[.int .i64 f, .int .i64 y] 41) = W := ⟨_, rfl⟩
  rw [hW] at hb1 HK1
  have HK := HK0.below hb1
  have hb := hb0.trans (hb1.mono hb0.size)
  have hr' := RdI.below hr hb
  have ht' := RdI.below ht hb
  rw [hsz] at HK1
  have d0 := HK1.cell 0 (.int .i64 f) rfl
  have d1 := HK1.cell 1 (.int .i64 y) rfl
  have HW := Lib.hid (show (w.alloc (.cells #[.int .i64 r, .slice A n c] 24)).alloc (.cells #[.int .i64 f, .int .i64 y] 41) = W by rw [hW0]; exact hW)
  have HB := Lib.hid hb
  have HRD := Lib.hid (fun (w2 : World) (h2 : Below W.heap.size W w2) => hr'.below h2)
  have HTD := Lib.hid (fun (w2 : World) (h2 : Below W.heap.size W w2) => ht'.below h2)
  have HX := Lib.hid (fun (w2 : World) (h2 : Below W.heap.size W w2) => (⟨(HK.below h2).cell 0 _ rfl, (HK.below h2).cell 1 _ rfl⟩ : w2.cell? ⟨w.heap.size, 0, none⟩ = some (.int .i64 r) ∧ w2.cell? ⟨w.heap.size, 1, none⟩ = some (.slice A n c)))
  have HBW := Lib.hid (Below.refl W.heap.size W)
  have HAW := Lib.hid (awake_any W)
  have H1 := Lib.hid (fun (m : Int) (w2 : World) (h2 : RdI w2 A n gs) (h3 : RdI w2 T tn tk) => best_any r A n c gs T tn tc tk m w2 h2 h3)
  have HC1 := Lib.hid (fun (w2 : World) (h2 : RdI w2 A n gs) => count_any r A n c gs w2 h2)
  have HBE := Lib.hid (fun (x : Int) (w2 : World) (h2 : RdI w2 A n gs) => beside_any r A n c gs x w2 h2)
  have HHA := Lib.hid (fun (x : Int) (w2 : World) (h2 : RdI w2 T tn tk) => Qu.has_any T tn tc tk x w2 h2)
  have HLEN := Lib.hid (fun x => besL_len r gs x)
  have hcb := cnt_bd r gs
  have hm := hr.2.1
  have hm2 := ht.2.1
  unfold maxLen at hm hm2
  unfold layV at *
  clear hr hr' HK hb hW ht ht' HK0 HK1 hb0 hb1 hW0 hsz
  obtain ⟨c0, c1⟩ := HX.out _ (Below.refl _ _)
  go_enter Tryd.func8, Tryd.ntmps8
  go_wp2_with (first | rw [HW.out] | fail)
  refine HAW.out.mono ?_
  rintro e w1 ⟨rfl, hb2⟩
  clear d0 d1
  have HBW := Lib.hid (HBW.out.trans (hb2.mono HBW.out.size))
  clear hb2 c0 c1
  obtain ⟨c0, c1⟩ := HX.out _ HBW.out
  have HB1 := Lib.hid (HB.out.trans (HBW.out.mono HB.out.size))
  by_cases hn : 1000 < n
  · go_wp2
    go_ret
    exact ⟨rfl, HB1.out⟩
  by_cases hn2 : 2000 < tn
  · go_wp2
    go_ret
    exact ⟨rfl, HB1.out⟩
  by_cases q1 : f < 0
  · go_wp2
    go_ret
    exact ⟨rfl, HB1.out⟩
  by_cases q2 : 600 < f
  · go_wp2
    go_ret
    exact ⟨rfl, HB1.out⟩
  by_cases q3 : y < 1
  · go_wp2
    go_ret
    exact ⟨rfl, HB1.out⟩
  by_cases q4 : 10 < y
  · go_wp2
    go_ret
    exact ⟨rfl, HB1.out⟩
  obtain ⟨M, rfl⟩ : ∃ M : Nat, y = M := ⟨y.toNat, by omega⟩
  have HBWs := Lib.hid HBW.out
  go_wp2
  clear c0 c1
  go_loopw [10] (fun i wr => ∃ k : Nat, k ≤ M ∧ i = .int .i64 k ∧ Below W.heap.size W wr ∧ Tog r gs tk f M k) (fun i _ => M - (intOf i).toNat)
  case atStart => exact ⟨0, by omega, rfl, HBWs.out, ⟨fun j hj => by omega, fun j hj => by omega⟩⟩
  case round =>
    obtain ⟨k, hk, rfl, hbw, htg⟩ := hrel
    have HBW := Lib.hid hbw
    have HTG := Lib.hid htg
    obtain ⟨c0, c1⟩ := HX.out _ hbw
    clear hbw htg
    by_cases hlt : k < M
    · have e1 : IntKind.i64.wrap (f + (k : Int)) = f + (k : Int) := IntWalk.i64_in _ (by omega)
      have e2 : IntKind.i64.wrap (f + (k : Int) + 1) = f + (k : Int) + 1 := IntWalk.i64_in _ (by omega)
      have HB9 := Lib.hid (HB.out.trans (HBW.out.mono HB.out.size))
      have HMO := Lib.hid (fun h1 h2 h3 => HTG.out.more h1 h2 h3)
      go_wp2_with fail
      refine (HHA.out (f + (k : Int)) _ (HTD.out _ HBW.out)).mono ?_
      rintro e w4 ⟨rfl, rfl⟩
      cases hh : hasI tk (f + (k : Int)) with
      | true =>
        go_wp2
        go_ret
        exact ⟨rfl, HB9.out⟩
      | false =>
        go_wp2_with fail
        refine (HC1.out _ (HRD.out _ HBW.out)).mono ?_
        rintro e w5 ⟨rfl, hb2⟩
        have HBW := Lib.hid (HBW.out.trans (hb2.mono HBW.out.size))
        clear hb2 c0 c1
        obtain ⟨c0, c1⟩ := HX.out _ HBW.out
        have HB5 := Lib.hid (HB.out.trans (HBW.out.mono HB.out.size))
        by_cases hK : cntS r gs ≤ f + (k : Int)
        · go_wp2
          go_ret
          exact ⟨rfl, HB5.out⟩
        have hK' : ¬ cntS r gs ≤ f + (k : Int) := hK
        go_wp2_with fail
        refine (HBE.out (f + (k : Int)) _ (HRD.out _ HBW.out)).mono ?_
        rintro e w6 ⟨v6, rfl, ho6⟩
        have HBW := Lib.hid (HBW.out.trans (ho6.1.mono HBW.out.size))
        obtain ⟨A6, d6, rfl, hr6, -⟩ := ho6.form (by have := HLEN.out (f + (k : Int)); omega)
        have HR6 := Lib.hid (Qu.has_any A6 _ d6 _ (f + (k : Int) + 1) w6 hr6)
        have HB6 := Lib.hid (HB.out.trans (HBW.out.mono HB.out.size))
        clear ho6 hr6 c0 c1
        obtain ⟨c0, c1⟩ := HX.out _ HBW.out
        go_wp2_with fail
        refine HR6.out.mono ?_
        rintro e w7 ⟨rfl, rfl⟩
        by_cases hkM : (k : Int) < (M : Int) - 1
        · cases hb : hasI (besL r gs (f + (k : Int))) (f + (k : Int) + 1) with
          | false =>
            go_wp2
            go_ret
            exact ⟨rfl, HB6.out⟩
          | true =>
            have HTG2 := Lib.hid (HMO.out hh (by omega) (fun _ => hb))
            go_wp2
            go_roundw
            case rel => exact ⟨k + 1, by omega, by go_num, HBW.out, HTG2.out⟩
            case measure => simp [intOf]; omega
        · have HTG2 := Lib.hid (HMO.out hh (by omega) (fun h => by omega))
          go_wp2
          go_roundw
          case rel => exact ⟨k + 1, by omega, by go_num, HBW.out, HTG2.out⟩
          case measure => simp [intOf]; omega
    · obtain rfl : k = M := by omega
      obtain ⟨t1, t2, t3, t4⟩ := HTG.out.all (by omega) (by omega)
      have HT3 := Lib.hid t3
      have HH1 := H1.out (k : Int) wr (HRD.out _ HBW.out) (HTD.out _ HBW.out)
      rw [t1] at HH1
      have HH := Lib.hid HH1
      clear HTG t1 t3 H1 HH1 HTD HHA HC1
      generalize bstL r gs tk (k : Int) = L at *
      go_wp2_with fail
      refine HH.out.mono ?_
      rintro e w4 ⟨B4, d4, rfl, hr4, hb2⟩
      have HBW := Lib.hid (HBW.out.trans (hb2.mono HBW.out.size))
      clear hb2 c0 c1
      obtain ⟨c0, c1⟩ := HX.out _ HBW.out
      have HR4 := Lib.hid hr4
      have HBW4 := Lib.hid HBW.out
      obtain ⟨b, off, rfl, hcell⟩ := hr4.2.2 (by omega)
      have t2i : ((L.length : Nat) : Int) = (k : Int) := by omega
      subst t2
      clear hr4 c0 c1 HH t2i
      obtain ⟨wo, rfl⟩ : ∃ wo, wo = wr := ⟨_, rfl⟩
      go_wp2
      go_loopw [15] (fun i wr => ∃ q : Nat, 1 ≤ q ∧ q ≤ L.length ∧ i = .int .i64 q ∧ Below w4.heap.size w4 wr) (fun i _ => L.length - (intOf i).toNat)
      case atStart => exact ⟨1, by omega, by omega, rfl, Below.refl _ _⟩
      case round =>
        obtain ⟨q, hq1, hq2, rfl, hbw⟩ := hrel
        have HBO := Lib.hid hbw
        have HBW := Lib.hid (HBW4.out.trans (hbw.mono HBW4.out.size))
        obtain ⟨c0, c1⟩ := HX.out _ HBW.out
        have HB7 := Lib.hid (HB.out.trans (HBW.out.mono HB.out.size))
        have hl0 : (0 : Int) < (L.length : Int) := by omega
        by_cases hlt : q < L.length
        · have hc1 := (hbw.cell (p := ⟨b, off + (q - 1), none⟩) (lt_of_cell (hcell (q - 1) (by omega)))).trans (hcell (q - 1) (by omega))
          have hc2 := (hbw.cell (p := ⟨b, off + q, none⟩) (lt_of_cell (hcell q hlt))).trans (hcell q hlt)
          have hQ := HT3.out (q - 1) (by omega)
          rw [show q - 1 + 1 = q by omega] at hQ
          have HQ := Lib.hid hQ
          have k4 : IntKind.i64.wrap ((q : Int) - 1) = ((q - 1 : Nat) : Int) := (IntWalk.i64_in _ (by omega)).trans (by omega)
          have k5 : (0 : Int) ≤ ((q - 1 : Nat) : Int) := by omega
          have k6 : ((q - 1 : Nat) : Int) < (L.length : Int) := by omega
          have k7 : (0 : Int) ≤ (q : Int) := by omega
          have k8 : (q : Int) < (L.length : Int) := by omega
          clear hQ
          generalize L.getD (q - 1) 0 = z1 at *
          generalize L.getD q 0 = z2 at *
          generalize hkk : q - 1 = p at *
          have HKK := Lib.hid hkk
          have HBY := Lib.hid (HBE.out z1)
          have HLY := Lib.hid (HLEN.out z1)
          have HCK := Lib.hid (fun (w8 : World) (h8 : Below wr.heap.size wr w8) => (h8.cell (p := ⟨b, off + p, none⟩) (lt_of_cell hc1)).trans hc1)
          have HCL := Lib.hid (fun (w8 : World) (h8 : Below wr.heap.size wr w8) => (h8.cell (p := ⟨b, off + q, none⟩) (lt_of_cell hc2)).trans hc2)
          have HBR := Lib.hid (Below.refl wr.heap.size wr)
          clear hkk hbw
          go_wp2_with fail
          go_region_held3 (fun w' => w'.cell? ⟨w.heap.size, 0, none⟩ = some (.int .i64 r) ∧ w'.cell? ⟨w.heap.size, 1, none⟩ = some (.slice A n c) ∧ w'.cell? ⟨b, off + p, none⟩ = some (.int .i64 z1) ∧ w'.cell? ⟨b, off + q, none⟩ = some (.int .i64 z2)) (first | exact ⟨by assumption, by assumption, by assumption, by assumption⟩ | go_keep) (first
            | (go_at_call 11; refine (HBY.out _ (HRD.out _ (by first | exact HBW.out | exact HBW.out.drew))).mono ?_; rintro e w7 ⟨v2, rfl, ho2⟩; have HBW := Lib.hid ((show Below W.heap.size W _ from by first | exact HBW.out | exact HBW.out.drew).trans (ho2.1.mono (by exact HBW.out.size))); have HBR := Lib.hid ((show Below wr.heap.size wr _ from by first | exact HBR.out | exact HBR.out.drew).trans (ho2.1.mono (by exact HBR.out.size))); obtain ⟨A7, d7, rfl, hr7, -⟩ := ho2.form (by have := HLY.out; omega); have HR6 := Lib.hid hr7; clear ho2 hr7 c0 c1 hc1 hc2; obtain ⟨c0, c1⟩ := HX.out _ HBW.out; have hc1 := HCK.out _ HBR.out; have hc2 := HCL.out _ HBR.out)
            | (go_at_call 24; refine (Qu.has_any _ _ _ _ z2 _ (by first | exact HR6.out | exact HR6.out.same (fun _ => rfl))).mono ?_; rintro e w8 ⟨rfl, rfl⟩))
          all_goals
            rw [HQ.out]
            go_wp2
            go_roundw
            case rel => exact ⟨q + 1, by omega, by omega, by go_num, by first | exact HBO.out.trans (HBR.out.mono HBO.out.size) | exact (HBO.out.trans (HBR.out.mono HBO.out.size)).drew⟩
            case measure => simp [intOf]; omega
        · have hc0 := (hbw.cell (p := ⟨b, off + 0, none⟩) (lt_of_cell (hcell 0 (by omega)))).trans (hcell 0 (by omega))
          rw [Nat.add_zero] at hc0
          have HT4 := Lib.hid t4
          clear hbw hcell t4
          generalize L.getD 0 0 = z0 at *
          have hz0 : decide (z0 ≤ f) = true := decide_eq_true HT4.out
          go_wp2
          go_ret
          exact ⟨by first | rfl | exact ret_bool hz0 | exact ret_bool (by simp), HB7.out⟩
end Go.Proofs.YtnmmpiddmckghaaDoor.Se
