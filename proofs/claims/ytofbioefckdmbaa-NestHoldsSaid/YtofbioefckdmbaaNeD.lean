/-
  Layer 14, the program's own: Right, has, Left, Sell, Back. Conditions: the limits and the sales can be read.
-/
import Derived.Test.YtofbioefckdmbaaNeS
namespace Go.Proofs.Ytofbioefckdmbaa.Ne
open Go.RowKit Go.Proofs.Ytofbioefckdmbaa.Qu Go.Proofs.Ytofbioefckdmbaa.Fld
set_option linter.unusedVariables false

theorem mn_rmL {L S : List Int} {k : Nat} (h : k < L.length) : mn (atI (rmL L S)) k = mn (rm L S) k := mn_congr k (fun i hi => rmL_at L S i (by omega))
set_option maxRecDepth 100000 in
set_option maxHeartbeats 1600000 in
theorem right_any (A : Option Addr) (n cap : Nat) (L : List Int) (B : Option Addr) (m cap2 : Nat) (S : List Int) (w : World) (ha : RdI w A n L) (hb : RdI w B m S) :
    Calls Try.prog 16 #[.slice A n cap, .slice B m cap2] w fun e w' => e = .returned (.bool (rightB L S)) ∧ Below w.heap.size w w' := by
  have HA := Lib.hid ha
  have HB := Lib.hid hb
  have HLI := Lib.hid (limits_any A n cap L w ha)
  have hm1 : n ≤ 9223372036854775807 := ha.2.1
  have hm2 : m ≤ 9223372036854775807 := hb.2.1
  obtain ⟨R, hR⟩ : ∃ R, rightB L S = R := ⟨_, rfl⟩
  have HR := Lib.hid (show decide (rightP L S) = R from hR)
  rw [hR]
  have HL := Lib.hid ha.1
  have HS := Lib.hid hb.1
  clear ha hb hR
  by_cases h1 : limP L
  · have HD1 := Lib.hid (dec_t h1)
    rw [HD1.out] at HLI
    by_cases h2 : m = n
    · have q0 : ((m : Int) != (n : Int)) = false := by simp; omega
      by_cases h3 : cntP S
      · have HD3 := Lib.hid (dec_t h3)
        have HRO := Lib.hid (fun (W : World) (hW : Below w.heap.size w W) => rooms_any A n cap L B cap2 S W (HA.out.below hW) (by rw [← h2]; exact HB.out.below hW) (by have := h1.2.1; have := HL.out; omega) h1.2.2.1 h3)
        have hn1 : 1 ≤ n := by have := h1.1; have := HL.out; omega
        have HF := Lib.hid (show R = decide (0 ≤ mn (atI (rmL L S)) (n - 1)) by
          rw [← HR.out, mn_rmL (by have := HL.out; omega)]
          have := fit_iff L S h1.1
          rw [HL.out] at this
          by_cases h4 : fitP L S
          · rw [dec_t (this.1 h4)]; exact dec_t ⟨h1, by rw [HL.out, HS.out]; exact h2, h3, h4⟩
          · rw [dec_f (fun h5 => h4 (this.2 h5))]; exact dec_f (fun h => h4 h.2.2.2))
        subst h2
        have HCO := Lib.hid (fun (W : World) (hW : Below w.heap.size w W) => counts_any B m cap2 S W (HB.out.below hW))
        rw [HD3.out] at HCO
        have HMN := Lib.hid (fun (g : Nat) (W : World) (hr : RdI W (some ⟨g, 0, none⟩) m (rmL L S)) => min_any (some ⟨g, 0, none⟩) m m (rmL L S) W hr hn1)
        clear h1 h3
        generalize mn (atI (rmL L S)) (m - 1) = x at *
        go_enter Try.func16, Try.ntmps16
        go_wp2_with fail
        refine HLI.out.mono ?_
        rintro e w1 ⟨rfl, hb1⟩
        have HB1 := Lib.hid hb1
        clear hb1
        go_wp2_with fail
        refine (HCO.out _ HB1.out).mono ?_
        rintro e w2 ⟨rfl, rfl⟩
        go_wp2_with fail
        refine (HRO.out _ HB1.out).mono ?_
        rintro e w3 ⟨g, rfl, hr3, hb3⟩
        have HB3 := Lib.hid (HB1.out.trans (hb3.mono HB1.out.size))
        have HR3 := Lib.hid hr3
        clear hr3 hb3
        go_wp2_with fail
        refine (HMN.out g _ HR3.out).mono ?_
        rintro e w4 ⟨rfl, rfl⟩
        go_wp2
        go_ret
        exact ⟨by rw [HF.out]; rfl, HB3.out⟩
      · have HD3 := Lib.hid (dec_f h3)
        have HF := Lib.hid (show R = false by rw [← HR.out]; exact dec_f (fun h => h3 h.2.2.1))
        subst h2
        have HCO := Lib.hid (fun (W : World) (hW : Below w.heap.size w W) => counts_any B m cap2 S W (HB.out.below hW))
        rw [HD3.out] at HCO
        clear h1 h3
        go_enter Try.func16, Try.ntmps16
        go_wp2_with fail
        refine HLI.out.mono ?_
        rintro e w1 ⟨rfl, hb1⟩
        have HB1 := Lib.hid hb1
        clear hb1
        go_wp2_with fail
        refine (HCO.out _ HB1.out).mono ?_
        rintro e w2 ⟨rfl, rfl⟩
        go_wp2
        go_ret
        exact ⟨by rw [HF.out]; rfl, HB1.out⟩
    · have HF := Lib.hid (show R = false by rw [← HR.out]; exact dec_f (fun h => h2 (by have := h.2.1; rw [HL.out, HS.out] at this; exact this)))
      have q0 : ((m : Int) != (n : Int)) = true := by simp; omega
      clear h1
      go_enter Try.func16, Try.ntmps16
      go_wp2_with fail
      refine HLI.out.mono ?_
      rintro e w1 ⟨rfl, hb1⟩
      have HB1 := Lib.hid hb1
      clear hb1
      go_wp2
      go_ret
      exact ⟨by rw [HF.out]; rfl, HB1.out⟩
  · have HD1 := Lib.hid (dec_f h1)
    rw [HD1.out] at HLI
    have HF := Lib.hid (show R = false by rw [← HR.out]; exact dec_f (fun h => h1 h.1))
    clear h1
    go_enter Try.func16, Try.ntmps16
    go_wp2_with fail
    refine HLI.out.mono ?_
    rintro e w1 ⟨rfl, hb1⟩
    have HB1 := Lib.hid hb1
    clear hb1
    go_wp2
    go_ret
    exact ⟨by rw [HF.out]; rfl, HB1.out⟩
set_option maxRecDepth 100000 in
set_option maxHeartbeats 1600000 in
theorem has_any (A : Option Addr) (n cap : Nat) (L : List Int) (B : Option Addr) (m cap2 : Nat) (S : List Int) (c : Int) (w : World) (ha : RdI w A n L) (hb : RdI w B m S) :
    Calls Try.prog 25 #[.slice A n cap, .slice B m cap2, .int .i64 c] w fun e w' => e = .returned (.bool (hasB L S c)) ∧ Below w.heap.size w w' := by
  have HRI := Lib.hid (right_any A n cap L B m cap2 S w ha hb)
  obtain ⟨R, hR⟩ : ∃ R, hasB L S c = R := ⟨_, rfl⟩
  have HR := Lib.hid (show decide (hasP L S c) = R from hR)
  rw [hR]
  have HL := Lib.hid ha.1
  clear ha hb hR
  by_cases h1 : rightP L S
  · have HD1 := Lib.hid (show rightB L S = true from dec_t h1)
    rw [HD1.out] at HRI
    by_cases h2 : 0 ≤ c
    · by_cases h3 : c < (n : Int)
      · have HF := Lib.hid (show R = true by rw [← HR.out]; exact dec_t ⟨h1, h2, by rw [HL.out]; exact h3⟩)
        clear h1
        go_enter Try.func25, Try.ntmps25
        go_wp2_with fail
        refine HRI.out.mono ?_
        rintro e w1 ⟨rfl, hb1⟩
        have HB1 := Lib.hid hb1
        clear hb1
        go_wp2
        go_ret
        exact ⟨by rw [HF.out]; rfl, HB1.out⟩
      · have HF := Lib.hid (show R = false by rw [← HR.out]; exact dec_f (fun h => h3 (by have := h.2.2; rw [HL.out] at this; exact this)))
        clear h1
        go_enter Try.func25, Try.ntmps25
        go_wp2_with fail
        refine HRI.out.mono ?_
        rintro e w1 ⟨rfl, hb1⟩
        have HB1 := Lib.hid hb1
        clear hb1
        go_wp2
        go_ret
        refine ⟨?_, HB1.out⟩
        rw [HF.out]
        show Ending.returned (.bool (decide (c < (n : Int)))) = _
        rw [decide_eq_false (by omega)]
    · have HF := Lib.hid (show R = false by rw [← HR.out]; exact dec_f (fun h => h2 h.2.1))
      clear h1
      go_enter Try.func25, Try.ntmps25
      go_wp2_with fail
      refine HRI.out.mono ?_
      rintro e w1 ⟨rfl, hb1⟩
      have HB1 := Lib.hid hb1
      clear hb1
      go_wp2
      go_ret
      exact ⟨by rw [HF.out]; rfl, HB1.out⟩
  · have HD1 := Lib.hid (show rightB L S = false from dec_f h1)
    rw [HD1.out] at HRI
    have HF := Lib.hid (show R = false by rw [← HR.out]; exact dec_f (fun h => h1 h.1))
    clear h1
    go_enter Try.func25, Try.ntmps25
    go_wp2_with fail
    refine HRI.out.mono ?_
    rintro e w1 ⟨rfl, hb1⟩
    have HB1 := Lib.hid hb1
    clear hb1
    go_wp2
    go_ret
    exact ⟨by rw [HF.out]; rfl, HB1.out⟩
end Go.Proofs.Ytofbioefckdmbaa.Ne
