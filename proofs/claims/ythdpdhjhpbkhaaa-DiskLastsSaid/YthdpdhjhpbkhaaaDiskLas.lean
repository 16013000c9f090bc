/-
  That the law DiskLasts answers true and leaves all memory that was there as it was. Conditions: the acts can be read.
-/
import Derived.Test.YthdpdhjhpbkhaaaDiskLasM
import Derived.Test.YthdpdhjhpbkhaaaDiskKeep
namespace Go.Proofs.Ythdpdhjhpbkhaaa.Dk
open Go.RowKit Go.Proofs.Ythdpdhjhpbkhaaa.Fld
set_option linter.unusedVariables false

theorem run_upto (A : Option Addr) (n cap u : Nat) (hA : A = none → cap = 0) (hu : u ≤ cap) (W : World) : (Instr.slice 33 (.slice A n cap) none (some (.int .i64 (u : Int))) none).run Try.prog W = .ok (.slice A u cap) W := by
  cases A with
  | some a =>
    have h1 : (0 : Int) ≤ (u : Int) := by omega
    have h3 : (u : Int) ≤ (cap : Int) := by omega
    go_simp
  | none =>
    obtain rfl := hA rfl
    obtain rfl : u = 0 := by omega
    go_simp
theorem Acc.Ok.below {w w' : World} {a : Acc} (h : a.Ok w) (hb : Below w.heap.size w w') : a.Ok w' := ⟨h.nm, h.to, h.n, h.b.below hb, h.bz, h.k.fr (S := []) (Fr.below hb) (fun _ _ _ => by simp)⟩
set_option maxRecDepth 100000 in
set_option maxHeartbeats 12800000 in
theorem lasts_walk (A : Option Addr) (n cap : Nat) (l : List Acc) (a : Acc) (w : World) (h : RdA w A n l) (ha : a.Ok w) :
    Calls Try.prog 5 #[.slice A n cap, actV a] w fun e w' => e = .returned (.bool true) ∧ Below w.heap.size w w' := by
  have hbx : Below w.heap.size w (boxed w a) := (Below.refl _ _).alloc (Nat.le_refl _) _
  have HBX := Lib.hid hbx
  obtain ⟨w0, hw0⟩ : ∃ w0, w0 = boxed w a := ⟨_, rfl⟩
  rw [← hw0] at HBX hbx
  have HI := Lib.hid (rda_in h hbx)
  have HOK := Lib.hid (ha.below hbx)
  have hn := h.2.1
  have HL := Lib.hid h.1
  have HNW := Lib.hid ((new_sn 100000 (boxed w a) (by omega) (by omega)).mono fun e w' hh => (show ∃ b g, e = .returned (.tuple #[.pointer (some ⟨g, 0, none⟩), .int .i64 0]) ∧ Sn w0 w' g b [] (st0 100000) by rw [hw0]; exact hh))
  have HRN := Lib.hid (fun w1 => rnew_rf 100000 w1 (by omega) (by omega))
  unfold maxLen at hn
  clear h ha hbx hw0
  obtain ⟨ad, nm, ato, an, BA, bn, bc, bs, KA, kn, kc, ks⟩ := a
  unfold boxed at HNW
  unfold actV
  simp only at HNW HOK
  go_enter Try.func5, Try.ntmps5
  go_wp2_with fail
  refine HNW.out.mono ?_
  rintro e w1 ⟨b, g, rfl, hsn⟩
  have HSN := Lib.hid hsn
  have HM2 := Lib.hid (much_any A n cap l w1 (rda_in HI.out hsn.2.1))
  clear hsn HNW
  go_wp2_with fail
  refine HM2.out.mono ?_
  rintro e w3 ⟨B, rfl, rfl, hB⟩
  cases B with
  | true =>
    go_wp2
    go_ret
    exact ⟨rfl, HBX.out.trans (HSN.out.2.1.mono HBX.out.size)⟩
  | false =>
    have HB := Lib.hid (hB rfl)
    clear hB HM2
    rcases Nat.lt_or_ge 10000 bn with hbn | hbn
    · have i1 : (10000 : Int) < (bn : Int) := by omega
      go_wp2
      go_ret
      exact ⟨rfl, HBX.out.trans (HSN.out.2.1.mono HBX.out.size)⟩
    have i1 : ¬ (10000 : Int) < (bn : Int) := by omega
    go_wp2_with fail
    refine (HRN.out w1).mono ?_
    rintro e w2 ⟨r, rfl, hr, hR, hb2⟩
    have hp := Pair.start HSN.out hr hR hb2
    have HP := Lib.hid hp
    clear hr hR hb2 hp HRN
    go_wp2_with fail
    go_loopw [13] (fun i wr => ScR w0 g b r i wr) (fun i _ => 300 - (intOf i).toNat)
    case atStart => exact ⟨0, st0 100000, [], .slice none 0 0, [], by omega, rfl, HP.out, by simp [st0]⟩
    case round =>
      obtain ⟨k, t, m, lv, mr, hk, rfl, hP, hlen⟩ := hrel
      have HPR := Lib.hid hP
      clear hP
      by_cases hlt : k < n ∧ k < 300
      · obtain ⟨hkn, hk3⟩ := hlt
        have hkl : k < l.length := by rw [HL.out]; exact hkn
        obtain ⟨lb, lo, rfl, c0, c1, c2, c3, c4, c5⟩ := rda_below HI.out HPR.out.sn.2.1 k hkl
        have hbn := HB.out k hkl (by omega)
        have HD := Lib.hid (does_all HPR.out l[k] (HI.out.2.2.2 l[k] (List.getElem_mem hkl)) (by omega) (by omega) (by omega))
        have HSL := Lib.hid (stDo_len l[k] t)
        unfold actV at HD
        generalize l[k] = a at *
        have i1 : (k : Int) < (n : Int) := by omega
        have i2 : (k : Int) < 300 := by omega
        go_wp2_with fail
        refine HD.out.mono ?_
        rintro e w4 ⟨B4, m4, lv4, mr4, rfl, hP4, hB4⟩
        have HP4 := Lib.hid hP4
        clear hP4 hB4
        have hl4 := HSL.out
        go_wp2
        go_roundw
        case rel => exact ⟨k + 1, stDo a t, m4, lv4, mr4, by omega, by go_num, HP4.out, by omega⟩
        case measure => simp [intOf]; omega
      · have HS := Lib.hid HPR.out.sn
        have hl2 : t.fs.length ≤ 300 := by omega
        clear HPR HP HSN HB HI
        have HCR := Lib.hid (crash_sn HS.out none 0 0 [] (by omega) ⟨rfl, by unfold maxLen; omega, fun h => by omega⟩ (fun _ a h => by cases h))
        have HQ := Lib.hid (crash_calm [] t)
        have hq2 : (stCrash [] t).fs.length ≤ 300 := by rw [crash_len]; exact hl2
        generalize stCrash [] t = u at HCR HQ hq2
        have HX : (k : Int) < (n : Int) ∧ ¬ (k : Int) < 300 ∨ ¬ (k : Int) < (n : Int) := by omega
        rcases HX with ⟨i1, i2⟩ | i1
        all_goals
          go_wp2_with fail
          refine HCR.out.mono ?_
          rintro e w4 ⟨rfl, m4, hS4⟩
          have HS4 := Lib.hid hS4
          have HA := Lib.hid (app_sn hS4 nm none 0 0 [] (by omega) (Rd.nil w4) (fun _ => rfl) (by omega))
          clear hS4 HCR
          cases hx : okN nm.data.toList with
          | false =>
            rw [app_bad _ _ _ hx] at HA
            go_wp2_with fail
            refine HA.out.mono ?_
            rintro e w5 ⟨rfl, m5, hS5⟩
            have HS5 := Lib.hid hS5
            clear hS5
            go_wp2
            go_ret
            exact ⟨rfl, HBX.out.trans (HS5.out.2.1.mono HBX.out.size)⟩
          | true =>
            obtain ⟨u1, z, s, e1, q1, g1, l1⟩ := las1 nm.data.toList HS4.out.1.good HQ.out hx
            rw [e1] at HA
            have H1 := Lib.hid (And.intro q1 g1)
            have HX := Lib.hid hx
            clear e1 q1 g1 hx
            go_wp2_with fail
            refine HA.out.mono ?_
            rintro e w5 ⟨rfl, m5, hS5⟩
            have HS5 := Lib.hid (show Sn w0 w5 g b m5 u1 from hS5)
            clear hS5
            obtain ⟨u2, e2, q2, g2, l2⟩ := las2 HS5.out.1.good H1.out.1 HX.out H1.out.2
            have HY := Lib.hid (sync_sn HS5.out nm (by omega))
            rw [e2] at HY
            have H2 := Lib.hid (And.intro q2 g2)
            clear e2 q2 g2
            go_wp2_with fail
            refine HY.out.mono ?_
            rintro e w6 ⟨rfl, m6, hS6⟩
            have HS6 := Lib.hid (show Sn w0 w6 g b m6 u2 from hS6)
            clear hS6
            have HR1 := Lib.hid (read_fresh g b m6 u2 nm w6 HS6.out.1)
            rw [las5 H2.out.1.off HX.out H2.out.2] at HR1
            go_wp2_with fail
            refine HR1.out.mono ?_
            rintro e w7 ⟨A7, n7, c7, rfl, hs7, hn7, hf7, hb7⟩
            have HSL7 := Lib.hid hs7.2
            have HA7 := Lib.hid (apart_new HS6.out.1 hs7.1 hf7)
            have HS7 := Lib.hid (HS6.out.below hb7)
            clear hs7 hb7 hf7 HR1 HY HA
            obtain ⟨c, u3, q, e3, hc3, q3, g3, hz, hzt, l3⟩ := las3 bs HS7.out.1.good H2.out.1 HX.out H2.out.2
            have HA3 := Lib.hid (app_kp HS7.out nm BA bn bc bs (by omega) (HOK.out.b.below HS7.out.2.1) HOK.out.bz (by omega))
            rw [e3] at HA3
            have H3 := Lib.hid (And.intro q3 (And.intro g3 (And.intro hz hzt)))
            clear e3 q3 g3 hz hzt
            go_wp2_with fail
            refine HA3.out.mono ?_
            rintro e w8 ⟨rfl, m8, hS8, hk8⟩
            have HS8 := Lib.hid (show Sn w0 w8 g b m8 u3 from hS8)
            have HA8 := Lib.hid (hk8 _ _ _ HA7.out)
            clear hS8 hk8 HA7
            have HR2 := Lib.hid (read_fresh g b m8 u3 nm w8 HS8.out.1)
            rw [las5 H3.out.1.off HX.out H3.out.2.1] at HR2
            go_wp2_with fail
            refine HR2.out.mono ?_
            rintro e w9 ⟨A9, n9, c9, rfl, hs9, hn9, hf9, hb9⟩
            have HSL9 := Lib.hid hs9.2
            have HA9 := Lib.hid (And.intro (Keep.below hb9 _ _ _ HA8.out) (apart_new HS8.out.1 hs9.1 hf9))
            have HS9 := Lib.hid (HS8.out.below hb9)
            clear hs9 hb9 hf9 HR2 HA3 HA8
            have HC2 := Lib.hid (crash_kp HS9.out KA kn kc ks (by omega) (HOK.out.k.fr (S := []) (Fr.below HS9.out.2.1) (fun _ _ _ => by simp)) (fun h0 x hx hm => by
              have h1 := rdi_block HOK.out.k h0 x hx
              have h2 := HS9.out.2.2 _ hm
              omega))
            go_wp2_with fail
            refine HC2.out.mono ?_
            rintro e w10 ⟨rfl, m10, hS10, hk10⟩
            have HS10 := Lib.hid hS10
            have HA10 := Lib.hid (And.intro (hk10 _ _ _ HA9.out.1) (hk10 _ _ _ HA9.out.2))
            clear hS10 HC2 hk10 HA9
            obtain ⟨E, hE1, hE2, g4⟩ := las4 ks H3.out.2.1 H3.out.2.2.1 HS10.out.1.good
            have HR3 := Lib.hid (read_sn HS10.out nm)
            rw [las5 rfl HX.out g4] at HR3
            have HE := Lib.hid (And.intro hE1 hE2)
            clear hE1 hE2 g4
            go_wp2_with fail
            refine HR3.out.mono ?_
            rintro e w11 ⟨A11, n11, c11, rfl, hs11, hn11, hb11⟩
            have r7 := HA10.out.1.1.below hb11
            have r9 := HA10.out.2.1.below hb11
            have r11 := hs11.1
            have t7 := r7.1
            have t9 := r9.1
            have t11 := r11.1
            rw [List.length_take] at t11
            have hE := HE.out
            have hz := H3.out.2.2
            have k1 : n7 ≤ n11 := by omega
            have k2 : n11 ≤ n9 := by omega
            have kE : E = n11 := by omega
            have s11 := hs11.2
            have s9 := HSL9.out
            have p1 : ∀ W, _ := run_upto A11 n11 c11 n7 s11.2.2.1 (by have := s11.1; omega)
            have p2 : ∀ W, _ := run_upto A9 n9 c9 n11 s9.2.2.1 (by have := s9.1; omega)
            have rc : Rd w11 A11 n7 z := by
              have h1 := r11.cut n7 k1
              rw [List.take_take, show min n7 E = z.length by omega, hz.2] at h1
              exact h1
            have rd : Rd w11 A9 n11 (q.take E) := by
              have h1 := r9.cut n11 k2
              rw [← kE] at h1 ⊢
              exact h1
            have v1 := fun i => conv_str (r7.drewN i) c7
            have v2 := fun i => conv_str (rc.drewN i) c11
            have v3 := fun i => conv_str (r11.drewN i) c11
            have v4 := fun i => conv_str (rd.drewN i) c9
            have HB11 := Lib.hid (HS10.out.2.1.trans (hb11.mono HS10.out.2.1.size))
            clear r7 r9 r11 t7 t9 t11 hE hz kE s11 s9 rc rd hs11 hb11 HR3 HE
            have i3 : (n7 : Int) ≤ (n11 : Int) := by omega
            have i4 : (n11 : Int) ≤ (n9 : Int) := by omega
            have j1 : ((str z).toList == (str z).toList) = true := by simp
            have j2 : ((str (q.take E)).toList == (str (q.take E)).toList) = true := by simp
            generalize str z = y1 at *
            generalize str (q.take E) = y2 at *
            rcases hc3 with rfl | rfl
            all_goals
              go_wp2_with fail
              go_quiet (fail)
              have HB12 := Lib.hid (below_drewN HB11.out nq)
              go_wp2
              go_ret
              exact ⟨rfl, HBX.out.trans (HB12.out.mono HBX.out.size)⟩
end Go.Proofs.Ythdpdhjhpbkhaaa.Dk
