/-
  That the law DiskRoom answers true and leaves all memory that was there as it was. Conditions: the acts can be read; the room is an int.
-/
import Derived.Test.YthdpdhjhpbkhaaaDiskRmM
import Derived.Test.YthdpdhjhpbkhaaaDiskKeep
import Derived.Laws.Concat
namespace Go.Proofs.Ythdpdhjhpbkhaaa.Dk
open Go.RowKit Go.Proofs.Ythdpdhjhpbkhaaa.Fld
set_option linter.unusedVariables false

theorem kept_below {w w1 w2 : World} {a : Acc} (h : Kept w a w1) (hb : Below w1.heap.size w1 w2) : Kept w a w2 := (hb.block _ (Array.getElem?_eq_some_iff.1 h).1).trans h
theorem kept_fr {S : List Nat} {w w1 w2 : World} {a : Acc} (h : Kept w a w1) (hf : Fr S w1 w2) (hS : w.heap.size ∉ S) : Kept w a w2 := (hf.block _ (Array.getElem?_eq_some_iff.1 h).1 hS).trans h
theorem app_kf {w0 w : World} {g b : Nat} {m : List Ent} {t : St} (h : Sn w0 w g b m t) (s : ByteArray) (A : Option Addr) (n cap : Nat) (ys : List Int) (hm : t.fs.length ≤ 1000000) (hr : Rd w A n ys) (hA : A = none → cap = 0) (hn : n ≤ 140737488355328) :
    Calls Try.prog 16 #[.pointer (some ⟨g, 0, none⟩), .string s, .slice A n cap] w fun e w' => e = .returned (.int .i64 (stAppend s.data.toList ys t).1) ∧ (∃ m', Sn w0 w' g b m' (stAppend s.data.toList ys t).2 ∧ Keep w g b m w' m') ∧ Fr (g :: b :: blks m) w w' :=
  (app_did g b m t s A n cap ys w h.1 hm hr hA hn).mono fun _ _ ⟨he, hL⟩ => ⟨he, h.keep hL, by obtain ⟨_, _, hf, _⟩ := hL; exact hf⟩
theorem str_size (z : List Int) : (str z).size = z.length := by
  have := congrArg List.length (str_data z)
  simpa using this
theorem str_app (a b : List Int) : str (a ++ b) = str a ++ str b := by
  apply nm_inj
  rw [str_data, ByteArray.data_append, Array.toList_append, str_data, str_data, List.map_append]
def RmR (w : World) (R g b : Nat) (i : Value) (wr : World) : Prop := ∃ (k : Nat) (t : St) (m : List Ent), k ≤ 300 ∧ i = .int .i64 (k : Int) ∧ Sn w wr g b m t ∧ t.fs.length ≤ k ∧ t.room = R
set_option maxRecDepth 100000 in
set_option maxHeartbeats 1500000 in
theorem room_walk (room : Int) (A : Option Addr) (n cap : Nat) (l : List Acc) (w : World) (hr0 : -9223372036854775808 ≤ room) (hr1 : room ≤ 9223372036854775807) (h : RdA w A n l) :
    Calls Try.prog 6 #[.int .i64 room, .slice A n cap] w fun e w' => e = .returned (.bool true) ∧ Below w.heap.size w w' := by
  have HI := Lib.hid h
  have hn := h.2.1
  have HL := Lib.hid h.1
  unfold maxLen at hn
  by_cases hbad : room < 1 ∨ 16777216 < room
  · have HM := Lib.hid (much_any A n cap l w h)
    have HNB := Lib.hid (new_bad room w hbad)
    clear h
    have HX : room < 1 ∨ ¬ room < 1 ∧ 16777216 < room := by omega
    clear hbad
    rcases HX with i1 | ⟨i1, i2⟩
    all_goals
      go_enter Try.func6, Try.ntmps6
      go_wp2_with fail
      refine HNB.out.mono ?_
      rintro e w1 ⟨rfl, rfl⟩
      go_wp2_with fail
      refine HM.out.mono ?_
      rintro e w1 ⟨B, rfl, rfl, _⟩
      go_wp2
      go_ret
      exact ⟨rfl, Below.refl _ _⟩
  · obtain ⟨R, rfl⟩ : ∃ R : Nat, room = (R : Int) := ⟨room.toNat, by omega⟩
    have HNW := Lib.hid (new_sn R w (by omega) (by omega))
    have HRN := Lib.hid (fun w1 => rnew_rf R w1 (by omega) (by omega))
    have hR : R ≤ 16777216 := by omega
    clear h hbad
    go_enter Try.func6, Try.ntmps6
    go_wp2_with fail
    refine HNW.out.mono ?_
    rintro e w1 ⟨b, g, rfl, hsn⟩
    have HSN := Lib.hid hsn
    have HM2 := Lib.hid (much_any A n cap l w1 (rda_in HI.out hsn.2.1))
    clear hsn HNW
    go_wp2_with fail
    refine HM2.out.mono ?_
    rintro e w3 ⟨B, rfl, rfl, hB⟩
    cases B with
    | true =>
      go_wp2
      go_ret
      exact ⟨rfl, HSN.out.2.1⟩
    | false =>
      have HB := Lib.hid (hB rfl)
      clear hB HM2
      go_wp2_with fail
      go_loopw [8] (fun i wr => RmR w R g b i wr) (fun i _ => 300 - (intOf i).toNat)
      case atStart => exact ⟨0, st0 R, [], by omega, rfl, HSN.out, by simp [st0], rfl⟩
      case round =>
        obtain ⟨k, t, m, hk, rfl, hS, hlen, hrm⟩ := hrel
        have HS := Lib.hid hS
        have HRM := Lib.hid hrm
        clear hS hrm
        by_cases hlt : k < n ∧ k < 300
        · obtain ⟨hkn, hk3⟩ := hlt
          have hkl : k < l.length := by rw [HL.out]; exact hkn
          obtain ⟨lb, lo, rfl, c0, c1, c2, c3, c4, c5⟩ := rda_below HI.out HS.out.2.1 k hkl
          have hbn := HB.out k hkl hk3
          have HOK := Lib.hid (HI.out.2.2.2 l[k] (List.getElem_mem hkl))
          generalize l[k] = a at *
          obtain ⟨ad, nm, ato, an, BA, bn, bc, bs, KA, kn, kc, ks⟩ := a
          simp only at c0 c1 c2 c3 c4 c5 hbn HOK
          have i1 : (k : Int) < (n : Int) := by omega
          have i2 : (k : Int) < 300 := by omega
          obtain ⟨wq, hwq⟩ : ∃ wq, wq = boxed wr ⟨ad, nm, ato, an, BA, bn, bc, bs, KA, kn, kc, ks⟩ := ⟨_, rfl⟩
          have HK := Lib.hid (show Kept wr ⟨ad, nm, ato, an, BA, bn, bc, bs, KA, kn, kc, ks⟩ wq by rw [hwq]; exact heap_alloc_new wr _)
          have HS2 := Lib.hid (show Sn w wq g b m t by rw [hwq]; exact HS.out.below ((Below.refl _ _).alloc (Nat.le_refl _) _))
          have HLT := Lib.hid HS.out.1.lt
          unfold boxed at hwq
          simp only at hwq
          go_wp2_with fail
          rw [← hwq]
          have HSZ := Lib.hid (size_any g b t wq HS2.out.1.dsk)
          have HTB := Lib.hid (And.intro HS2.out.1.good.fits HRM.out)
          clear hwq c0 c1 c2 c3 c4 c5 HS HB HI HSN
          refine HSZ.out.mono ?_
          rintro e w' ⟨rfl, rfl⟩
          obtain ⟨k0, k1, k2, k3, k4, k5⟩ := HK.out.cells
          simp only at k0 k1 k2 k3 k4 k5
          have HRD := Lib.hid (read_fresh g b m t nm wq HS2.out.1)
          rcases hst : stRead nm.data.toList t with ⟨F, z⟩
          rw [hst] at HRD
          have HST := Lib.hid hst
          clear hst HSZ
          have hTR : total t.fs ≤ 16777216 := by have := HTB.out; omega
          go_wp2_with fail
          refine HRD.out.mono ?_
          rintro e w5 ⟨A5, n5, c5, rfl, hs5, hn5, hf5, hb5⟩
          have HS5 := Lib.hid (HS2.out.below hb5)
          have HA5 := Lib.hid (apart_new HS2.out.1 hs5.1 hf5)
          have HK5 := Lib.hid (kept_below HK.out hb5)
          obtain ⟨x0, x1, x2, x3, x4, x5⟩ := HK5.out.cells
          simp only at x0 x1 x2 x3 x4 x5
          clear hs5 hb5 hf5 k0 k1 k2 k3 k4 k5 HRD HK HS2
          by_cases hd : ad = 0
          · subst hd
            have HAP := Lib.hid (app_kf HS5.out nm BA bn bc bs (by omega) (HOK.out.b.below HS5.out.2.1) HOK.out.bz (by omega))
            have hac := app_case nm.data.toList bs HS5.out.1.good
            have hfl := app_flen nm.data.toList bs t
            have hro := app_room nm.data.toList bs t
            unfold AppCase at hac
            rw [HST.out] at hac
            rcases hap : stAppend nm.data.toList bs t with ⟨G, t2⟩
            rw [hap] at HAP hac hfl hro
            simp only at hac hfl hro
            rw [HRM.out] at hro
            have HRM2 := Lib.hid hro
            have HFL := Lib.hid hfl
            clear hap hro hfl
            go_wp2_with fail
            refine HAP.out.mono ?_
            rintro e w6 ⟨rfl, ⟨m6, hS6, hk6⟩, hf6⟩
            have HS6 := Lib.hid (show Sn w w6 g b m6 t2 from hS6)
            have HA6 := Lib.hid (hk6 _ _ _ HA5.out)
            have HK6 := Lib.hid (kept_fr HK5.out hf6 (fun hm => by have := HLT.out _ hm; omega))
            obtain ⟨y0, y1, y2, y3, y4, y5⟩ := HK6.out.cells
            simp only at y0 y1 y2 y3 y4 y5
            clear hS6 hk6 hf6 x0 x1 x2 x3 x4 x5 HAP HA5 HK5
            have HR2 := Lib.hid (read_fresh g b m6 t2 nm w6 HS6.out.1)
            rcases hac with ⟨rfl, hr2, ht2⟩ | rfl | ⟨hg0, hg5, hr2, ht2⟩
            · rw [hr2] at HR2
              go_wp2_with fail
              refine HR2.out.mono ?_
              rintro e w7 ⟨A7, n7, c7, rfl, hs7, hn7, _, hb7⟩
              have HS7 := Lib.hid (HS6.out.below hb7)
              have HK7 := Lib.hid (kept_below HK6.out hb7)
              obtain ⟨z0, z1, z2, z3, z4, z5⟩ := HK7.out.cells
              simp only at z0 z1 z2 z3 z4 z5
              have r5 := HA6.out.1.below hb7
              have rB := HOK.out.b.below HS7.out.2.1
              have hbl := rB.1
              simp only at rB hbl
              have v1 := fun i => conv_str (hs7.1.drewN i) c7
              have v2 := fun i => conv_str (r5.drewN i) c5
              have v3 := fun i => conv_str (rB.drewN i) bc
              have HQ := Lib.hid (fun i => size_quiet g b t2 w7 i HS7.out.1.dsk)
              rw [ht2, hbl, Int.natCast_add] at HQ
              have hsum : (str z).size + (str bs).size ≤ 9223372036854775807 := by
                have h1 : (str z).size = z.length := str_size z
                have h2 : (str bs).size = bs.length := str_size bs
                have h3 := r5.1
                omega
              have p1 : ∀ W : World, (Op.stringOp .add (str z) (str bs)).run Try.prog W = .ok (.string (str z ++ str bs)) W := fun W => run_string_add_sum W _ _ hsum
              have HT2 := Lib.hid ht2
              have j1 : ((str (z ++ bs)).toList == (str z ++ str bs).toList) = true := by rw [str_app]; simp
              have e1 : (((total t.fs : Nat) : Int) + (bn : Int) != ((total t.fs : Nat) : Int) + (bn : Int)) = false := by simp
              clear hs7 hb7 r5 rB hbl y0 y1 y2 y3 y4 y5 ht2 hr2
              generalize str (z ++ bs) = s1 at *
              generalize str z = s2 at *
              generalize str bs = s3 at *
              generalize total t.fs = T at *
              go_wp2_with fail
              go_quiet ((go_at_call 19; exact HQ.out _))
              have HSF := Lib.hid (HS7.out.below (below_drews w7 nq))
              generalize w7.drewN nq = w8 at *
              have HSZ2 := Lib.hid (size_any g b t2 w8 HSF.out.1.dsk)
              have HFT := Lib.hid (And.intro HSF.out.1.good.fits HRM2.out)
              have f1 : ¬ ((R : Int) < ((total t2.fs : Nat) : Int)) := by have := HFT.out; omega
              have f2 : ¬ (((total t2.fs : Nat) : Int) < 0) := by omega
              go_wp2_with (go_at_call 19; refine HSZ2.out.mono ?_; rintro e w' ⟨rfl, rfl⟩)
              go_roundw
              case rel => exact ⟨k + 1, t2, m6, by omega, by go_num, HSF.out, by have := HFL.out; omega, HRM2.out⟩
              case measure => simp [intOf]; omega
            · go_wp2_with fail
              refine HR2.out.mono ?_
              rintro e w7 ⟨A7, n7, c7, rfl, hs7, hn7, _, hb7⟩
              have HS7 := Lib.hid (HS6.out.below hb7)
              clear hs7 hb7 y0 y1 y2 y3 y4 y5 HR2
              generalize (stRead nm.data.toList t2).1 = F2 at *
              go_wp2_with fail
              go_quiet (fail)
              have HS8 := Lib.hid (HS7.out.below (below_drews w7 nq))
              generalize w7.drewN nq = w8 at *
              have HSF := Lib.hid HS8.out
              have HSZ2 := Lib.hid (size_any g b t2 w8 HSF.out.1.dsk)
              have HFT := Lib.hid (And.intro HSF.out.1.good.fits HRM2.out)
              have f1 : ¬ ((R : Int) < ((total t2.fs : Nat) : Int)) := by have := HFT.out; omega
              have f2 : ¬ (((total t2.fs : Nat) : Int) < 0) := by omega
              go_wp2_with (go_at_call 19; refine HSZ2.out.mono ?_; rintro e w' ⟨rfl, rfl⟩)
              go_roundw
              case rel => exact ⟨k + 1, t2, m6, by omega, by go_num, HSF.out, by have := HFL.out; omega, HRM2.out⟩
              case measure => simp [intOf]; omega
            · rw [hr2] at HR2
              go_wp2_with fail
              refine HR2.out.mono ?_
              rintro e w7 ⟨A7, n7, c7, rfl, hs7, hn7, _, hb7⟩
              have q1 : (G != 0) = true := by simpa using hg0
              have q1' : (G == 0) = false := by simpa using hg0
              have HS70 := Lib.hid (HS6.out.below hb7)
              have HX0 := Lib.hid (And.intro (HA6.out.1.below hb7) hs7.1)
              clear hs7 hb7 y0 y1 y2 y3 y4 y5
              go_wp2_with fail
              go_quiet (fail)
              have HS7 := Lib.hid (HS70.out.below (below_drews w7 nq))
              have r5 := HX0.out.1.drewN nq
              have hs7 := HX0.out.2.drewN nq
              clear HS70 HX0
              generalize w7.drewN nq = w7 at *
              have v1 := conv_str hs7 c7
              have v2 := conv_str r5 c5
              have HSZ2 := Lib.hid (size_any g b t2 w7 HS7.out.1.dsk)
              have hfit := HS7.out.1.good.fits
              rw [ht2] at HSZ2 hfit
              rw [HRM2.out] at hfit
              have f1 : ¬ ((R : Int) < ((total t.fs : Nat) : Int)) := by omega
              have f2 : ¬ (((total t.fs : Nat) : Int) < 0) := by omega
              have j1 : ((str z).toList == (str z).toList) = true := by simp
              have j3 : (F != F) = false := by simp
              have e1 : (((total t.fs : Nat) : Int) != ((total t.fs : Nat) : Int)) = false := by simp
              have q2 : (G != 5) = true := by simpa using hg5
              clear hs7 r5 ht2 hr2 hfit
              generalize str z = s2 at *
              generalize total t.fs = T at *
              go_wp2_with (go_at_call 19; refine HSZ2.out.mono ?_; rintro e w' ⟨rfl, rfl⟩)
              go_roundw
              case rel => exact ⟨k + 1, t2, m6, by omega, by go_num, HS7.out, by have := HFL.out; omega, HRM2.out⟩
              case measure => simp [intOf]; omega
          · have HR5 := Lib.hid (HRN.out w5)
            go_wp2_with fail
            refine HR5.out.mono ?_
            rintro e w6 ⟨r, rfl, hr, hR6, hb6⟩
            have hp := Pair.start HS5.out hr hR6 hb6
            have HD := Lib.hid (does_all hp ⟨ad, nm, ato, an, BA, bn, bc, bs, KA, kn, kc, ks⟩ HOK.out (by show bn ≤ _; omega) (by omega) (by simp [st0]))
            have HSL := Lib.hid (stDo_len ⟨ad, nm, ato, an, BA, bn, bc, bs, KA, kn, kc, ks⟩ t)
            have HSR := Lib.hid (stDo_room ⟨ad, nm, ato, an, BA, bn, bc, bs, KA, kn, kc, ks⟩ t)
            have HK6 := Lib.hid (kept_below HK5.out hb6)
            obtain ⟨y0, y1, y2, y3, y4, y5⟩ := HK6.out.cells
            simp only at y0 y1 y2 y3 y4 y5
            unfold actV at HD
            simp only at HD
            generalize stDo ⟨ad, nm, ato, an, BA, bn, bc, bs, KA, kn, kc, ks⟩ t = t2 at HD HSL HSR
            clear hr hR6 hb6 hp x0 x1 x2 x3 x4 x5 HR5
            go_wp2_with fail
            refine HD.out.mono ?_
            rintro e w7 ⟨B7, m7, lv7, mr7, rfl, hP7, _⟩
            have HSF := Lib.hid hP7.sn
            have HRM2 := Lib.hid (HSR.out.trans HRM.out)
            have HFL := Lib.hid HSL.out
            clear hP7 y0 y1 y2 y3 y4 y5 HD
            have HSZ2 := Lib.hid (size_any g b t2 w7 HSF.out.1.dsk)
            have HFT := Lib.hid (And.intro HSF.out.1.good.fits HRM2.out)
            have f1 : ¬ ((R : Int) < ((total t2.fs : Nat) : Int)) := by have := HFT.out; omega
            have f2 : ¬ (((total t2.fs : Nat) : Int) < 0) := by omega
            go_wp2_with (go_at_call 19; refine HSZ2.out.mono ?_; rintro e w' ⟨rfl, rfl⟩)
            go_roundw
            case rel => exact ⟨k + 1, t2, m7, by omega, by go_num, HSF.out, by have := HFL.out; omega, HRM2.out⟩
            case measure => simp [intOf]; omega
        · have hB2 := HS.out.2.1
          have HB2 := Lib.hid hB2
          clear hB2
          by_cases hkn : k < n
          · have i1 : (k : Int) < (n : Int) := by omega
            have i2 : ¬ (k : Int) < 300 := by omega
            go_wp2
            go_ret
            exact ⟨rfl, HB2.out⟩
          · have i1 : ¬ (k : Int) < (n : Int) := by omega
            go_wp2
            go_ret
            exact ⟨rfl, HB2.out⟩
end Go.Proofs.Ythdpdhjhpbkhaaa.Dk
