/-
  Layer 14, the program's own: Left, Sell, Back. Conditions: the limits and the sales can be read.
-/
import Derived.Test.YtofbioefckdmbaaNeD
namespace Go.Proofs.Ytofbioefckdmbaa.Ne
open Go.RowKit Go.Proofs.Ytofbioefckdmbaa.Qu Go.Proofs.Ytofbioefckdmbaa.Fld
set_option linter.unusedVariables false

theorem run_up (g n u : Nat) (hu : u ≤ n) (W : World) : (Instr.slice 24 (.slice (some ⟨g, 0, none⟩) n n) none (some (.int .i64 (u : Int))) none).run Try.prog W = .ok (.slice (some ⟨g, 0, none⟩) u n) W := by
  have h1 : (0 : Int) ≤ (u : Int) := by omega
  have h3 : (u : Int) ≤ (n : Int) := by omega
  go_simp
theorem rdI_cut {w : World} {A : Option Addr} {n : Nat} {zs : List Int} (hr : RdI w A n zs) (u : Nat) (hu : u ≤ n) : RdI w A u (zs.take u) := by
  obtain ⟨h1, h2, h3⟩ := hr
  refine ⟨by rw [List.length_take]; omega, by omega, fun hp => ?_⟩
  obtain ⟨b, off, rfl, hc⟩ := h3 (by omega)
  refine ⟨b, off, rfl, fun i hi => ?_⟩
  rw [hc i (by omega), List.getD_eq_getElem?_getD, List.getD_eq_getElem?_getD, List.getElem?_take, if_pos hi]
def Tup (a e : Int) : Ending := .returned (.tuple #[.int .i64 a, .int .i64 e])
theorem tup_eq {a e a' e' : Int} (h : a = a') (g : e = e') : Tup a e = Tup a' e' := by rw [h, g]
theorem mn_take {L S : List Int} {c : Nat} (h : c < L.length) : mn (atI ((rmL L S).take (c + 1))) c = lft L S c := by
  unfold lft
  rw [← mn_rmL h]
  apply mn_congr
  intro i hi
  unfold atI
  rw [List.getD_eq_getElem?_getD, List.getD_eq_getElem?_getD, List.getElem?_take, if_pos (by omega)]
theorem lftV_pos {L S : List Int} {c : Int} (h : hasP L S c) : lftV L S c = lft L S c.toNat := by unfold lftV; rw [if_pos h]
theorem lftV_neg {L S : List Int} {c : Int} (h : ¬ hasP L S c) : lftV L S c = 0 := by unfold lftV; rw [if_neg h]
theorem lftE_pos {L S : List Int} {c : Int} (h : hasP L S c) : lftE L S c = 0 := by unfold lftE; rw [if_pos h]
theorem lftE_neg {L S : List Int} {c : Int} (h : ¬ hasP L S c) : lftE L S c = 1 := by unfold lftE; rw [if_neg h]
set_option maxRecDepth 100000 in
set_option maxHeartbeats 1600000 in
theorem left_any (A : Option Addr) (n cap : Nat) (L : List Int) (B : Option Addr) (m cap2 : Nat) (S : List Int) (c : Int) (w : World) (ha : RdI w A n L) (hb : RdI w B m S) :
    Calls Try.prog 14 #[.slice A n cap, .slice B m cap2, .int .i64 c] w fun e w' => e = Tup (lftV L S c) (lftE L S c) ∧ Below w.heap.size w w' := by
  have HHA := Lib.hid (has_any A n cap L B m cap2 S c w ha hb)
  obtain ⟨V, hV⟩ : ∃ V, lftV L S c = V := ⟨_, rfl⟩
  obtain ⟨E, hE⟩ : ∃ E, lftE L S c = E := ⟨_, rfl⟩
  have HV := Lib.hid hV
  have HE := Lib.hid hE
  rw [hV, hE]
  clear hV hE
  have HL := Lib.hid ha.1
  have HS := Lib.hid hb.1
  have HA := Lib.hid ha
  have HB := Lib.hid hb
  clear ha hb
  by_cases h1 : hasP L S c
  · have HD1 := Lib.hid (show hasB L S c = true from dec_t h1)
    rw [HD1.out] at HHA
    obtain ⟨k, rfl⟩ : ∃ k : Nat, c = (k : Int) := ⟨c.toNat, by have := h1.2.1; omega⟩
    have hk : k < n := by have := h1.2.2; have := HL.out; omega
    have hmn : m = n := by have := h1.1.2.1; have := HL.out; have := HS.out; omega
    have hn8 : n ≤ 8 := by have := h1.1.1.2.1; have := HL.out; omega
    have HRO := Lib.hid (fun (W : World) (hW : Below w.heap.size w W) => rooms_any A n cap L B cap2 S W (HA.out.below hW) (by rw [← hmn]; exact HB.out.below hW) hn8 h1.1.1.2.2.1 h1.1.2.2.1)
    have HFV := Lib.hid (show V = mn (atI ((rmL L S).take (k + 1))) (k + 1 - 1) by rw [← HV.out, lftV_pos h1, Int.toNat_natCast, Nat.add_sub_cancel, mn_take (by rw [HL.out]; exact hk)])
    have HFE := Lib.hid (show E = 0 by rw [← HE.out, lftE_pos h1])
    have HMN := Lib.hid (fun (g : Nat) (W : World) (hr : RdI W (some ⟨g, 0, none⟩) n (rmL L S)) => min_any (some ⟨g, 0, none⟩) (k + 1) n ((rmL L S).take (k + 1)) W (rdI_cut hr (k + 1) hk) (by omega))
    have HUP := Lib.hid (fun (g : Nat) (W : World) => run_up g n (k + 1) hk W)
    subst hmn
    clear h1 HHA
    have HHA := Lib.hid (has_any A m cap L B m cap2 S (k : Int) w HA.out HB.out)
    rw [HD1.out] at HHA
    generalize mn (atI ((rmL L S).take (k + 1))) (k + 1 - 1) = x at *
    obtain ⟨u, hu⟩ : ∃ u, k + 1 = u := ⟨_, rfl⟩
    have hw1 : (k : Int) + 1 = (u : Int) := by omega
    rw [hu] at HMN HUP
    have HU := Lib.hid hu
    have HW1 := Lib.hid hw1
    clear hu hw1
    go_enter Try.func14, Try.ntmps14
    go_wp2_with fail
    refine HHA.out.mono ?_
    rintro e w1 ⟨rfl, hb1⟩
    have HB1 := Lib.hid hb1
    clear hb1
    go_wp2_with fail
    refine (HRO.out _ HB1.out).mono ?_
    rintro e w2 ⟨g, rfl, hr2, hb2⟩
    have HB2 := Lib.hid (HB1.out.trans (hb2.mono HB1.out.size))
    have HMG := Lib.hid (HMN.out g _ hr2)
    have hup := HUP.out g
    clear hr2 hb2
    go_wp2_with (first | rw [HW1.out] | fail)
    refine HMG.out.mono ?_
    rintro e w4 ⟨rfl, rfl⟩
    go_wp2
    go_ret2
    exact ⟨by rw [HFV.out, HFE.out]; rfl, HB2.out⟩
  · have HD1 := Lib.hid (show hasB L S c = false from dec_f h1)
    rw [HD1.out] at HHA
    have HFV := Lib.hid (show V = 0 by rw [← HV.out, lftV_neg h1])
    have HFE := Lib.hid (show E = 1 by rw [← HE.out, lftE_neg h1])
    clear h1
    go_enter Try.func14, Try.ntmps14
    go_wp2_with fail
    refine HHA.out.mono ?_
    rintro e w1 ⟨rfl, hb1⟩
    have HB1 := Lib.hid hb1
    clear hb1
    go_wp2
    go_ret2
    exact ⟨by rw [HFV.out, HFE.out]; rfl, HB1.out⟩
end Go.Proofs.Ytofbioefckdmbaa.Ne
