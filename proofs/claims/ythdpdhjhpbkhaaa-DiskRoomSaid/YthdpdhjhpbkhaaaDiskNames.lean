/-
  That the law DiskNames answers true and leaves all memory that was there as it was. Conditions: the acts can be read.
-/
import Derived.Test.YthdpdhjhpbkhaaaDiskScr
namespace Go.Proofs.Ythdpdhjhpbkhaaa.Dk
open Go.RowKit Go.Proofs.Ythdpdhjhpbkhaaa.Fld
set_option linter.unusedVariables false

theorem rda_in {w w1 : World} {A : Option Addr} {n : Nat} {l : List Acc} (h : RdA w A n l) (hb : Below w.heap.size w w1) : RdA w1 A n l :=
  ⟨h.1, h.2.1, fun hp => by
    obtain ⟨b, off, e, hc⟩ := h.2.2.1 hp
    refine ⟨b, off, e, fun i hi j hj => ?_⟩
    have h1 := hc i hi j hj
    have h2 : ∃ v, l[i].cells[j]? = some v := ⟨_, List.getElem?_eq_getElem (by simp [Acc.cells]; omega)⟩
    obtain ⟨v, hv⟩ := h2
    rw [hv] at h1 ⊢
    exact (hb.cell (lt_of_cell h1)).trans h1, fun a ha => by
    have hok := h.2.2.2 a ha
    exact ⟨hok.nm, hok.to, hok.n, hok.b.below hb, hok.bz, hok.k.fr (S := []) (Fr.below hb) (fun _ _ _ => by simp)⟩⟩
theorem ttl_take (fs : List Fil) (k : Nat) (h : k < fs.length) : total (fs.take (k + 1)) = total (fs.take k) + fs[k].2.1.length := by
  unfold total
  rw [List.take_add_one, List.getElem?_eq_getElem h, List.map_append, List.sum_append]
  rfl
theorem read_at {t : St} (h : Good t) (ho : t.off = false) (k : Nat) (hk : k < t.fs.length) : stRead (nameOf t.fs[k]).data.toList t = (0, t.fs[k].2.1) := by
  have hm : t.fs[k] ∈ t.fs := List.getElem_mem hk
  have hn : (nameOf t.fs[k]).data.toList = t.fs[k].1 := by simp [nameOf]
  have hg : fget t.fs[k].1 t.fs = some t.fs[k] := get_mem h.up hm
  unfold stRead
  rw [hn, ho, h.name _ hm, hg]
  rfl
theorem toList_nameOf (f : Fil) : (nameOf f).toList = f.1 := by
  rw [ByteArray.toList_eq]
  simp [nameOf]
def NmL (w : World) (fs : List Fil) (x i : Value) (wr : World) : Prop := ∃ k : Nat, k ≤ fs.length ∧ i = .int .i64 (k : Int) ∧ x = .int .i64 ((total (fs.take k) : Nat) : Int) ∧ Below w.heap.size w wr
set_option maxRecDepth 100000 in
set_option maxHeartbeats 6400000 in
theorem namesl_walk (A : Option Addr) (n cap : Nat) (l : List Acc) (w : World) (h : RdA w A n l) :
    Calls Try.prog 9 #[.slice A n cap] w fun e w' => e = .returned (.bool true) ∧ Below w.heap.size w w' := by
  have HI := Lib.hid h
  have hn := h.2.1
  have HL := Lib.hid h.1
  have HNW := Lib.hid (new_sn 100000 w (by omega) (by omega))
  have HRN := Lib.hid (fun w1 => rnew_rf 100000 w1 (by omega) (by omega))
  unfold maxLen at hn
  clear h
  go_enter Try.func9, Try.ntmps9
  go_wp2_with fail
  refine HNW.out.mono ?_
  rintro e w1 ⟨b, g, rfl, hsn⟩
  have HSN := Lib.hid hsn
  clear hsn HNW
  go_wp2_with fail
  refine (HRN.out w1).mono ?_
  rintro e w2 ⟨r, rfl, hr, hR, hb2⟩
  have hp := Pair.start HSN.out hr hR hb2
  have HP := Lib.hid hp
  have HM2 := Lib.hid (much_any A n cap l w2 (rda_in HI.out hp.sn.2.1))
  clear hr hR hb2 hp HRN
  go_wp2_with fail
  refine HM2.out.mono ?_
  rintro e w3 ⟨B, rfl, rfl, hB⟩
  cases B with
  | true =>
    go_wp2
    go_ret
    exact ⟨rfl, HP.out.sn.2.1⟩
  | false =>
    have HB := Lib.hid (hB rfl)
    clear hB HM2
    go_wp2_with fail
    go_loopw [8] (fun i wr => ScR w g b r i wr) (fun i _ => 300 - (intOf i).toNat)
    case atStart => exact ⟨0, st0 100000, [], .slice none 0 0, [], by omega, rfl, HP.out, by simp [st0]⟩
    case round =>
      obtain ⟨k, t, m, lv, mr, hk, rfl, hP, hlen⟩ := hrel
      have HPR := Lib.hid hP
      clear hP
      by_cases hlt : k < n ∧ k < 200
      · obtain ⟨hkn, hk3⟩ := hlt
        have hkl : k < l.length := by rw [HL.out]; exact hkn
        obtain ⟨lb, lo, rfl, c0, c1, c2, c3, c4, c5⟩ := rda_below HI.out HPR.out.sn.2.1 k hkl
        have hbn := HB.out k hkl (by omega)
        have HD := Lib.hid (does_all HPR.out l[k] (HI.out.2.2.2 l[k] (List.getElem_mem hkl)) (by omega) (by omega) (by omega))
        have HSL := Lib.hid (stDo_len l[k] t)
        unfold actV at HD
        generalize l[k] = a at *
        have i1 : (k : Int) < (n : Int) := by omega
        have i2 : (k : Int) < 200 := by omega
        go_wp2_with fail
        refine HD.out.mono ?_
        rintro e w4 ⟨B4, m4, lv4, mr4, rfl, hP4, hB4⟩
        have HP4 := Lib.hid hP4
        clear hP4 hB4
        have hl4 := HSL.out
        go_wp2
        go_roundw
        case rel => exact ⟨k + 1, stDo a t, m4, lv4, mr4, by omega, by go_num, HP4.out, by omega⟩
        case measure => simp [intOf]; omega
      · have HS := Lib.hid HPR.out.sn
        have hl2 : t.fs.length ≤ 300 := by omega
        clear HPR HP HSN HB HI
        have HCR := Lib.hid (crash_sn HS.out none 0 0 [] (by omega) ⟨rfl, by unfold maxLen; omega, fun h => by omega⟩ (fun _ a h => by cases h))
        have HQ := Lib.hid (show (stCrash [] t).off = false ∧ (stCrash [] t).fs.length ≤ 300 from ⟨rfl, by unfold stCrash; simp only; rw [crashTo_len]; omega⟩)
        generalize stCrash [] t = u at HCR HQ
        have HX : (k : Int) < (n : Int) ∧ ¬ (k : Int) < 200 ∨ ¬ (k : Int) < (n : Int) := by omega
        rcases HX with ⟨i1, i2⟩ | i1
        all_goals
          go_wp2_with fail
          refine HCR.out.mono ?_
          rintro e w4 ⟨rfl, m4, hS4⟩
          have HS4 := Lib.hid hS4
          have HN := Lib.hid (names_any g b m4 u w4 hS4.1 (by have := HQ.out.2; omega))
          have HE := Lib.hid (names_eq hS4.1.fs)
          have HEL := Lib.hid hS4.1.len
          clear hS4
          go_wp2_with fail
          refine HN.out.mono ?_
          rintro e w5 ⟨A1, c1, rfl, hs1, _, hb1⟩
          rw [HE.out, HEL.out] at hs1
          rw [HEL.out]
          have HS1 := Lib.hid hs1
          have HS5 := Lib.hid (HS4.out.below hb1)
          clear hs1 hb1 HN HE HEL HCR
          have hN := HQ.out.2
          go_wp2_with fail
          go_loopw [10, 11] (fun x i wr => NmL w5 u.fs x i wr) (fun x i _ => 300 - (intOf i).toNat)
          case atStart => exact ⟨0, by omega, rfl, by simp [total], Below.refl _ _⟩
          case round =>
            obtain ⟨j, hj, rfl, rfl, hb⟩ := hrel
            have HB := Lib.hid hb
            have HSr := Lib.hid (HS5.out.below hb)
            clear hb
            by_cases hjn : j < u.fs.length
            · obtain ⟨s, hs⟩ : ∃ s, s = nameOf u.fs[j] := ⟨_, rfl⟩
              have hrd := read_at HSr.out.1.good HQ.out.1 j hjn
              have hRD := read_any g b m4 u s wr HSr.out.1
              rw [hs, hrd, ← hs] at hRD
              have HRD := Lib.hid hRD
              have HTT := Lib.hid (ttl_take u.fs j hjn)
              have HTL := Lib.hid (show total (u.fs.take j) ≤ 16777216 by
                have h1 := HSr.out.1.good.fits
                have h2 := HSr.out.1.good.room2
                have h3 : total (u.fs.take j) + total (u.fs.drop j) = total u.fs := by
                  have := congrArg total (List.take_append_drop j u.fs)
                  unfold total at this ⊢
                  rw [List.map_append, List.sum_append] at this
                  exact this
                omega)
              obtain ⟨b1, o1, rfl, hc1⟩ := HS1.out.2.2 (by omega)
              have hk1 := hc1 j hjn
              rw [List.getD_eq_getElem?_getD, List.getElem?_map, List.getElem?_eq_getElem hjn, Option.map_some, Option.getD_some, ← hs] at hk1
              have gj := (HB.out.cell (lt_of_cell hk1)).trans hk1
              have HK := Lib.hid hk1
              have i0 : (0 : Int) ≤ (j : Int) := by omega
              have i1 : (j : Int) < (u.fs.length : Int) := by omega
              have HC := Lib.hid hc1
              have HSS := Lib.hid hs
              clear hRD hrd hk1 hc1 hs
              generalize hzs : u.fs[j].2.1 = zs at *
              clear hzs
              generalize total (u.fs.take j) = T at *
              go_wp2_with fail
              refine HRD.out.mono ?_
              rintro e w6 ⟨A6, n6, c6, rfl, hs6, hn6, hb6⟩
              have HB6 := Lib.hid (HB.out.trans (hb6.mono HB.out.size))
              have g6 := (HB6.out.cell (lt_of_cell HK.out)).trans HK.out
              have HL6 := Lib.hid hs6.1.1
              have hT := HTL.out
              clear gj hs6 hb6 HRD
              rcases Nat.eq_zero_or_pos j with rfl | hp
              · go_wp2_with fail
                go_quiet (fail)
                have HB7 := Lib.hid (below_drewN HB6.out nq)
                go_wp2
                go_roundw
                case rel => exact ⟨1, by omega, by go_num, by rw [HTT.out, HL6.out]; go_num, HB7.out⟩
                case measure => simp [intOf]
              · obtain ⟨p, rfl⟩ : ∃ p, j = p + 1 := ⟨j - 1, by omega⟩
                have hpl : p < u.fs.length := by omega
                have hkp := HC.out p hpl
                rw [List.getD_eq_getElem?_getD, List.getElem?_map, List.getElem?_eq_getElem hpl, Option.map_some, Option.getD_some] at hkp
                have gp := (HB6.out.cell (lt_of_cell hkp)).trans hkp
                have HUP := Lib.hid (show bytesBefore u.fs[p].1 u.fs[p + 1].1 = true from List.pairwise_iff_getElem.1 HSr.out.1.good.up p (p + 1) hpl hjn (by omega))
                have hup := HUP.out
                have n1 : (nameOf u.fs[p]).toList = u.fs[p].1 := toList_nameOf _
                have n2 : s.toList = u.fs[p + 1].1 := by rw [HSS.out]; exact toList_nameOf _
                rw [← n1, ← n2] at hup
                have j1 : Op.bytesLess (nameOf u.fs[p]).toList s.toList = true := by rw [less_before]; exact hup
                have j2 : Op.bytesLess s.toList (nameOf u.fs[p]).toList = false := by rw [less_before]; exact before_asym hup
                have j3 : (s.toList == (nameOf u.fs[p]).toList) = false := by
                  have := before_ne hup
                  simp
                  exact fun h => this h.symm
                clear hup n1 n2 HUP
                generalize nameOf u.fs[p] = s2 at *
                go_wp2_with fail
                go_quiet (fail)
                have HB7 := Lib.hid (below_drewN HB6.out nq)
                go_wp2
                go_roundw
                case rel => exact ⟨p + 2, by omega, by go_num, by rw [HTT.out, HL6.out]; go_num, HB7.out⟩
                case measure => simp [intOf]; omega
            · obtain rfl : j = u.fs.length := by omega
              have HSZ := Lib.hid (size_any g b u wr HSr.out.1.dsk)
              have hT : total (u.fs.take u.fs.length) = total u.fs := by rw [List.take_length]
              rw [hT]
              go_wp2_with fail
              refine HSZ.out.mono ?_
              rintro e w6 ⟨rfl, rfl⟩
              go_wp2
              go_ret
              exact ⟨by simp, HSr.out.2.1⟩
end Go.Proofs.Ythdpdhjhpbkhaaa.Dk
