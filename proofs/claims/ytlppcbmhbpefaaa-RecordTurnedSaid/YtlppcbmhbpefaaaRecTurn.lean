/-
  That the law RecordTurned answers true and leaves all memory that was there as it was. Conditions: the list can be read.
-/
import Derived.Test.YtlppcbmhbpefaaaRecCut
namespace Go.Proofs.Ytlppcbmhbpefaaa.Rc
open Go.RowKit
open Fld (Bytes val Rd RdL)
set_option linter.unusedVariables false

/-- four neighbouring bytes, each exchanged -/
theorem set4 (X Y : List Int) (m0 m1 m2 m3 v0 v1 v2 v3 : Int) (a : Nat) (h : X.length = a) : ((((X ++ ([m0, m1, m2, m3] ++ Y)).set a v0).set (a + 1) v1).set (a + 2) v2).set (a + 3) v3 = X ++ ([v0, v1, v2, v3] ++ Y) := by
  subst h
  induction X with
  | nil => rfl
  | cons x X ih =>
    simp only [List.cons_append, List.length_cons, List.set_cons_succ, Nat.add_right_comm X.length 1] at ih ⊢
    rw [ih]
theorem get4 (X Y : List Int) (m0 m1 m2 m3 : Int) (a : Nat) (h : X.length = a) : (X ++ ([m0, m1, m2, m3] ++ Y)).getD a 0 = m0 ∧ (X ++ ([m0, m1, m2, m3] ++ Y)).getD (a + 1) 0 = m1 ∧ (X ++ ([m0, m1, m2, m3] ++ Y)).getD (a + 2) 0 = m2 ∧ (X ++ ([m0, m1, m2, m3] ++ Y)).getD (a + 3) 0 = m3 := by
  subst h
  refine ⟨?_, ?_, ?_, ?_⟩ <;> rw [List.getD_eq_getElem?_getD, List.getElem?_append_right (by omega)] <;> simp
theorem getD_set_ne (l : List Int) (a b : Nat) (v : Int) (h : a ≠ b) : (l.set a v).getD b 0 = l.getD b 0 := by rw [List.getD_eq_getElem?_getD, List.getElem?_set_ne h, ← List.getD_eq_getElem?_getD]
/-- the content's four bytes from place d on -/
theorem mid4 (t : List Int) (d : Nat) (h : d + 4 ≤ t.length) : ∃ p m0 m1 m2 m3 q, t = p ++ [m0, m1, m2, m3] ++ q ∧ p.length = d := by
  have h1 : (t.drop d).length = t.length - d := List.length_drop
  match hq : t.drop d, h1 with
  | m0 :: m1 :: m2 :: m3 :: q, _ =>
    refine ⟨t.take d, m0, m1, m2, m3, q, ?_, by rw [List.length_take]; omega⟩
    conv => lhs; rw [← List.take_append_drop d t, hq]
    simp
  | [], h1 => simp at h1; omega
  | [_], h1 => simp at h1; omega
  | [_, _], h1 => simp at h1; omega
  | [_, _, _], h1 => simp at h1; omega
/-- what is told of records of which one was turned -/
theorem turned_sc (ls : List (List Int)) (hs : Small ls) (i : Nat) (hi : i < ls.length) (p q : List Int) (m0 m1 m2 m3 : Int) (T : BitVec 32) (hT : T ≠ 0#32) (ht : ls.getD i [] = p ++ [m0, m1, m2, m3] ++ q) (hb : Bytes [m0, m1, m2, m3]) :
    ∃ X Y, recs ls = X ++ ([m0, m1, m2, m3] ++ Y) ∧ X.length = (recs (ls.take i)).length + 8 + p.length ∧
      Sc (X ++ ([bits .xor .u8 m0 (Crc.uv T % 256), bits .xor .u8 m1 (Crc.uv T / 256 % 256), bits .xor .u8 m2 (Crc.uv T / 65536 % 256), bits .xor .u8 m3 (Crc.uv T / 16777216)] ++ Y)) (ls.take i) := by
  have hsm : (ls.getD i []).length ≤ 65536 := hs _ (by rw [List.getD_eq_getElem?_getD, List.getElem?_eq_getElem hi]; simp)
  have hsp := recs_split ls i
  rw [recs_drop ls i hi, ht, recd] at hsp
  refine ⟨recs (ls.take i) ++ (four (p ++ [m0, m1, m2, m3] ++ q).length ++ (four (sumN (p ++ [m0, m1, m2, m3] ++ q)) ++ p)), q ++ recs (ls.drop (i + 1)), ?_, ?_, ?_⟩
  · rw [hsp]; simp only [List.append_assoc]
  · simp only [List.length_append, four_len]; omega
  · have h := first_turned p [m0, m1, m2, m3] q [bits .xor .u8 m0 (Crc.uv T % 256), bits .xor .u8 m1 (Crc.uv T / 256 % 256), bits .xor .u8 m2 (Crc.uv T / 65536 % 256), bits .xor .u8 m3 (Crc.uv T / 16777216)] (recs (ls.drop (i + 1))) T hT hb rfl (by
      have b1 := Crc.uv_lt T
      have b0 := Crc.uv_nonneg T
      have e : Crc.uv T / 16777216 = Crc.uv T / 2 ^ 24 % 256 := by omega
      rw [e]
      rfl) (by rw [← ht]; exact hsm)
    have h2 := Sc.of (ts := ls.take i) (small_take hs i) h
    simp only [List.append_assoc] at h2 ⊢
    exact h2
set_option maxRecDepth 100000 in
set_option maxHeartbeats 3200000 in
theorem turned_walk (A : Option Addr) (M c : Nat) (ls : List (List Int)) (x y : Int) (hx : -9223372036854775808 ≤ x ∧ x ≤ 9223372036854775807 ∧ -9223372036854775808 ≤ y ∧ y ≤ 9223372036854775807) (T : BitVec 32) (w : World) (hq : RdL w A M ls) (hMc : M ≤ c) (hA : A = none → c = 0) :
    Calls Try.prog 6 #[.slice A M c, .agg #[.int .i64 x, .int .i64 y], .int .u32 (Crc.uv T)] w fun e w' => e = .returned (.bool true) ∧ Below w.heap.size w w' := by
  have hmM := hq.2.1
  unfold maxLen at hmM
  have HQ := Lib.hid hq
  have HL := Lib.hid hq.1
  have HA := Lib.hid hA
  have b0 := Crc.uv_nonneg T
  have b1 := Crc.uv_le T
  clear hq hA
  go_enter Try.func6, Try.ntmps6
  go_wp2_with fail
  have HB0 := Lib.hid (show Below w.heap.size w (w.alloc (.cells #[.int .i64 x, .int .i64 y] 36)) from (Below.refl _ _).alloc (Nat.le_refl _) _)
  have HX0 := Lib.hid (show (w.alloc (.cells #[.int .i64 x, .int .i64 y] 36)).cell? ⟨w.heap.size, 0, none⟩ = some (.int .i64 x) by rw [World.cell?_alloc_mark]; rfl)
  have HY0 := Lib.hid (show (w.alloc (.cells #[.int .i64 x, .int .i64 y] 36)).cell? ⟨w.heap.size, 1, none⟩ = some (.int .i64 y) by rw [World.cell?_alloc_mark]; rfl)
  have HQ0 := Lib.hid (HQ.out.below HB0.out)
  generalize w.alloc (.cells #[.int .i64 x, .int .i64 y] 36) = w0 at HB0 HX0 HY0 HQ0 ⊢
  refine (awake_any _).mono ?_
  rintro e w1 ⟨rfl, hb1⟩
  have HB := Lib.hid (HB0.out.trans (hb1.mono HB0.out.size))
  have HX1 := Lib.hid ((hb1.cell (Fld.lt_of_cell HX0.out)).trans HX0.out)
  have HY1 := Lib.hid ((hb1.cell (Fld.lt_of_cell HY0.out)).trans HY0.out)
  have HQ1 := Lib.hid (HQ0.out.below hb1)
  clear hb1
  go_wp2_with fail
  refine (whole_any A M c ls _ HQ1.out).mono ?_
  rintro e w2 h2
  rcases h2 with ⟨v2, u2, rfl, hsm, hre, hO2, hrow2⟩ | ⟨rfl, hb2, _⟩
  · rw [HL.out] at hrow2
    obtain ⟨A2, c2, hv2, hs2, _⟩ := hO2.sl _ rfl
    subst hv2
    obtain ⟨A3, c3, hv3, he3⟩ := ints_rd hrow2
    subst hv3
    have HE3 := Lib.hid he3
    have HS2 := Lib.hid hs2
    have HB2 := Lib.hid (HB.out.trans (hO2.1.mono HB.out.size))
    have HQ2 := Lib.hid (HQ1.out.below hO2.1)
    have HX2 := Lib.hid ((hO2.1.cell (Fld.lt_of_cell HX1.out)).trans HX1.out)
    have HY2 := Lib.hid ((hO2.1.cell (Fld.lt_of_cell HY1.out)).trans HY1.out)
    have HSM := Lib.hid hsm
    have h8 := recs_ge ls
    rw [HL.out] at h8
    clear hs2 hO2 hrow2 hsm he3 HX0 HX1 HY0 HY1 HQ0 HQ1
    generalize hU : (recs ls).length = U at *
    have HU := Lib.hid hU
    clear hU
    have hxc := HX2.out
    have hyc := HY2.out
    by_cases hM0 : M = 0
    · have tM : ((M : Int) == 0) = true := by simp; omega
      go_wp2
      go_ret
      exact ⟨rfl, HB2.out⟩
    · have tM : ((M : Int) == 0) = false := by simp; omega
      by_cases hx0 : x < 0
      · go_wp2
        go_ret
        exact ⟨rfl, HB2.out⟩
      · by_cases hy0 : y < 0
        · go_wp2
          go_ret
          exact ⟨rfl, HB2.out⟩
        · by_cases hT : T = 0#32
          · have tT : (Crc.uv T == 0) = true := by rw [hT, Crc.uv_zero]; rfl
            clear hT
            go_wp2
            go_ret
            exact ⟨rfl, HB2.out⟩
          · have tT : (Crc.uv T == 0) = false := by
              have : Crc.uv T ≠ 0 := fun h => hT (Crc.uv_inj (by rw [h, Crc.uv_zero]))
              simpa using this
            obtain ⟨a, rfl⟩ : ∃ a : Nat, x = (a : Int) := ⟨x.toNat, by omega⟩
            obtain ⟨d0, rfl⟩ : ∃ d0 : Nat, y = (d0 : Int) := ⟨y.toNat, by omega⟩
            obtain ⟨i, hi⟩ : ∃ i : Nat, i = a % M := ⟨_, rfl⟩
            have hiM : i < M := by rw [hi]; exact Nat.mod_lt _ (by omega)
            have HMOD := Lib.hid (show (a : Int) % (M : Int) = (i : Int) by rw [hi]; push_cast; rfl)
            clear hi
            have t1 : ((M : Int) != (M : Int)) = false := by simp
            have t2 : ¬ (U : Int) < 8 * (M : Int) := by omega
            have t3 : (0 : Int) ≤ (a : Int) := by omega
            have t4 : (0 : Int) ≤ (d0 : Int) := by omega
            have t5 : (0 : Int) < (M : Int) := by omega
            clear hx0 hy0
            obtain ⟨bl, ol, A1, L, cl, rfl, g1, r1, hA1⟩ := rdl_at HQ2.out i hiM
            have HR1 := Lib.hid r1
            have HT1 := Lib.hid r1.1
            have hLm := r1.2.1
            unfold maxLen at hLm
            clear r1 hA1
            obtain ⟨g3, rfl, hcell3⟩ := HE3.out (by omega)
            have hci := hcell3 i hiM
            clear hcell3
            have hmod := HMOD.out
            by_cases hL4 : L < 4
            · go_wp2
              go_ret
              exact ⟨rfl, HB2.out⟩
            · have hEL : endOf ls i = (recs (ls.take i)).length + 8 + L := by
                unfold endOf
                rw [recs_take ls i (by rw [HL.out]; exact hiM), List.length_append, recd_len, HT1.out]; omega
              have hEU : endOf ls i ≤ U := by
                have h := congrArg List.length (recs_split ls (i + 1))
                rw [List.length_append, HU.out] at h
                unfold endOf; omega
              obtain ⟨d, hd⟩ : ∃ d : Nat, d = d0 % (L - 3) := ⟨_, rfl⟩
              have hdL : d < L - 3 := by rw [hd]; exact Nat.mod_lt _ (by omega)
              have HD := Lib.hid (show Int.tmod (d0 : Int) ((L : Int) - 3) = (d : Int) by
                rw [show (L : Int) - 3 = ((L - 3 : Nat) : Int) by omega, hd]; rfl)
              clear hd
              generalize hE : endOf ls i = E at *
              generalize hR : (recs (ls.take i)).length = R at *
              have HR := Lib.hid hR
              have HEL := Lib.hid hEL
              clear hE hR
              have f1 : IntKind.i64.wrap ((E : Int) - (L : Int)) = (E : Int) - (L : Int) := IntWalk.i64_in _ (by omega)
              have f2 : IntKind.i64.wrap ((L : Int) - 3) = (L : Int) - 3 := IntWalk.i64_in _ (by omega)
              have f3 := HD.out
              have f4 : IntKind.i64.wrap ((E : Int) - (L : Int) + (d : Int)) = (E : Int) - (L : Int) + (d : Int) := IntWalk.i64_in _ (by omega)
              have f5 : IntKind.i64.wrap (d : Int) = (d : Int) := IntWalk.i64_in _ (by omega)
              have f6 : ((L : Int) - 3 == 0) = false := by simp; omega
              have i1 : (i : Int) < (M : Int) := by omega
              have i0 : (0 : Int) ≤ (i : Int) := by omega
              go_wp2_with fail
              go_quiet (fail)
              clear f1 f2 f3 f4 f5 f6
              obtain ⟨p, m0, m1, m2, m3, q, htp, hpl⟩ := mid4 (ls.getD i []) d (by rw [HT1.out]; omega)
              have hbm : Bytes [m0, m1, m2, m3] := by
                intro z hz
                exact HR1.out.2.2.1 z (by rw [htp]; simp only [List.mem_append]; exact .inl (.inr hz))
              obtain ⟨X, Y, hXY, hXl, hSc⟩ := turned_sc ls HSM.out i (by rw [HL.out]; exact hiM) p q m0 m1 m2 m3 T hT htp hbm
              rw [HR.out, hpl] at hXl
              obtain ⟨at', hat⟩ : ∃ at' : Nat, at' = R + 8 + d := ⟨_, rfl⟩
              rw [← hat] at hXl
              have HAT := Lib.hid (show (R : Int) + 8 + (d : Int) = (at' : Int) by omega)
              have hatU : at' + 3 < U := by omega
              have HG := Lib.hid (get4 X Y m0 m1 m2 m3 at' hXl)
              have HST := Lib.hid (set4 X Y m0 m1 m2 m3 (bits .xor .u8 m0 (Crc.uv T % 256)) (bits .xor .u8 m1 (Crc.uv T / 256 % 256)) (bits .xor .u8 m2 (Crc.uv T / 65536 % 256)) (bits .xor .u8 m3 (Crc.uv T / 16777216)) at' hXl)
              have HSC := Lib.hid hSc
              have d0b := hbm m0 (by simp)
              have d1b := hbm m1 (by simp)
              have d2b := hbm m2 (by simp)
              have d3b := hbm m3 (by simp)
              have x0b := Crc.xor8_bd m0 (Crc.uv T % 256) d0b.1 d0b.2 (by omega) (by omega)
              have x1b := Crc.xor8_bd m1 (Crc.uv T / 256 % 256) d1b.1 d1b.2 (by omega) (by omega)
              have x2b := Crc.xor8_bd m2 (Crc.uv T / 65536 % 256) d2b.1 d2b.2 (by omega) (by omega)
              have x3b := Crc.xor8_bd m3 (Crc.uv T / 16777216) d3b.1 d3b.2 (by omega) (by omega)
              have HSB := Lib.hid ((HS2.out).below (w' := w2.drewN nq) ⟨rfl, rfl, rfl, Nat.le_refl _, fun _ _ => rfl⟩)
              rw [hXY] at HSB
              have HBQ := Lib.hid (below_drew HB2.out nq)
              have HQQ := Lib.hid (rdl_drewN HQ2.out nq)
              have HCI := Lib.hid (show (w2.drewN nq).cell? ⟨g3, i, none⟩ = some (.int .i64 (E : Int)) by rw [World.cell?_drewN]; exact hci)
              have HG1 := Lib.hid (show (w2.drewN nq).cell? ⟨bl, ol + i, none⟩ = some (.slice A1 L cl) by rw [World.cell?_drewN]; exact g1)
              have HXU := Lib.hid (show (X ++ ([m0, m1, m2, m3] ++ Y)).length = U by rw [← hXY]; exact HU.out)
              clear hXY hXl hSc hat htp hpl hbm hci g1 hxc hyc HX2 HY2
              rw [HMOD.out, HAT.out]
              clear hmod
              generalize w2.drewN nq = wq at *
              have HO4 := Lib.hid (Fld.Own.made wq wq (Below.refl _ _))
              have HS4 := Lib.hid (HSB.out.below HO4.out.1)
              unfold Fld.noneBlk at HO4 HS4
              go_wp2_with (refine Fld.wpList_append_rd rfl _ _ rfl wq (.slice (some ⟨wq.heap.size, 0, none⟩) 0 0) [] rfl HO4.out A2 U c2 (X ++ ([m0, m1, m2, m3] ++ Y)) rfl HS4.out.2.2.2.1 HS4.out.1 (by simp; omega) ?_)
              intro v5 w5 hO5 _ _
              try rw [List.nil_append] at hO5
              have hO5' : Fld.Own wq w5 v5 (X ++ ([m0, m1, m2, m3] ++ Y)) := by simpa using hO5
              obtain ⟨g5, c5, hv5, hg5⟩ := hO5'.addr U HXU.out (by omega)
              subst hv5
              have k0 := (hO5'.cell at' (by omega)).1
              have z0 := (hO5'.cell at' (by omega)).2.1
              rw [HG.out.1] at k0
              have s1 := hO5'.store at' (bits .xor .u8 m0 (Crc.uv T % 256)) x0b.1 x0b.2
              have k1 := (s1.cell (at' + 1) (by omega)).1
              have z1 := (s1.cell (at' + 1) (by omega)).2.1
              rw [getD_set_ne _ _ _ _ (by omega), HG.out.2.1] at k1
              have s2 := s1.store (at' + 1) (bits .xor .u8 m1 (Crc.uv T / 256 % 256)) x1b.1 x1b.2
              have k2 := (s2.cell (at' + 2) (by omega)).1
              have z2 := (s2.cell (at' + 2) (by omega)).2.1
              rw [getD_set_ne _ _ _ _ (by omega), getD_set_ne _ _ _ _ (by omega), HG.out.2.2.1] at k2
              have s3 := s2.store (at' + 2) (bits .xor .u8 m2 (Crc.uv T / 65536 % 256)) x2b.1 x2b.2
              have k3 := (s3.cell (at' + 3) (by omega)).1
              have z3 := (s3.cell (at' + 3) (by omega)).2.1
              rw [getD_set_ne _ _ _ _ (by omega), getD_set_ne _ _ _ _ (by omega), getD_set_ne _ _ _ _ (by omega), HG.out.2.2.2] at k3
              have s4 := s3.store (at' + 3) (bits .xor .u8 m3 (Crc.uv T / 16777216)) x3b.1 x3b.2
              rw [HST.out] at s4
              have HS6 := Lib.hid s4
              clear s1 s2 s3 s4 hO5 hO5'
              have a0 : (0 : Int) ≤ (at' : Int) := by omega
              have a1 : (at' : Int) + 3 < (U : Int) := by omega
              have n1 : ((at' : Int) + 1).toNat = at' + 1 := by omega
              have n2 : ((at' : Int) + 2).toNat = at' + 2 := by omega
              have n3 : ((at' : Int) + 3).toNat = at' + 3 := by omega
              go_wp2_with fail
              clear k0 k1 k2 k3 z0 z1 z2 z3 n1 n2 n3 a0 a1
              generalize (((w5.setCell _ _).setCell _ _).setCell _ _).setCell _ _ = w6 at HS6 ⊢
              have HB6 := Lib.hid (HBQ.out.trans (HS6.out.1.mono HBQ.out.size))
              have HQ6 := Lib.hid (HQQ.out.below HS6.out.1)
              have HCI6 := Lib.hid ((HS6.out.1.cell (Fld.lt_of_cell HCI.out)).trans HCI.out)
              have HG6 := Lib.hid ((HS6.out.1.cell (Fld.lt_of_cell HG1.out)).trans HG1.out)
              obtain ⟨A7, c7, hv7, hs7, _⟩ := HS6.out.sl U (by have h := HXU.out; simp only [List.length_append, List.length_cons, List.length_nil] at h ⊢; omega)
              injection hv7 with q1 q2 q3
              subst q1 q3
              have HS7 := Lib.hid (Sl.of hs7)
              clear hs7
              refine (scan_any _ U c5 _ _ HS7.out (by omega)).mono ?_
              rintro e w8 ⟨ts, v, rfl, hsc, hrow, hb8⟩
              obtain rfl := hsc.uniq HSC.out
              have HTJ := Lib.hid (show (ls.take i).length = i by rw [List.length_take, HL.out]; omega)
              obtain ⟨B, cb, hv, hrd, hcb, hBn⟩ := rows_rdl hrow (by rw [HTJ.out]; unfold maxLen; omega)
              subst hv
              rw [HR.out]
              rw [HTJ.out] at hrd
              rw [HTJ.out]
              have HRD := Lib.hid hrd
              have HQ8 := Lib.hid ((HQ6.out.cut i (by omega)).below hb8)
              have HB8 := Lib.hid (HB6.out.trans (hb8.mono HB6.out.size))
              have HCI8 := Lib.hid ((hb8.cell (Fld.lt_of_cell HCI6.out)).trans HCI6.out)
              have HG8 := Lib.hid ((hb8.cell (Fld.lt_of_cell HG6.out)).trans HG6.out)
              have r2 := run_toL (some ⟨bl, ol, none⟩) M c i HA.out (by omega)
              clear hsc hrow hrd hb8 hBn
              go_wp2_with fail
              clear r2
              refine (same_any B (some ⟨bl, ol, none⟩) i cb c (ls.take i) _ HRD.out HQ8.out).mono ?_
              rintro e w9 ⟨rfl, k9, rfl⟩
              have y1 : (w8.drewN k9).cell? ⟨g3, i, none⟩ = some (.int .i64 (E : Int)) := by rw [World.cell?_drewN]; exact HCI8.out
              have y2 : (w8.drewN k9).cell? ⟨bl, ol + i, none⟩ = some (.slice A1 L cl) := by rw [World.cell?_drewN]; exact HG8.out
              have HB9 := Lib.hid (below_drew HB8.out k9)
              generalize w8.drewN k9 = w9 at *
              have f1 : IntKind.i64.wrap ((E : Int) - (L : Int)) = (E : Int) - (L : Int) := IntWalk.i64_in _ (by omega)
              have f2 : IntKind.i64.wrap ((E : Int) - (L : Int) - 8) = (E : Int) - (L : Int) - 8 := IntWalk.i64_in _ (by omega)
              have f3 : ((R : Int) == (E : Int) - (L : Int) - 8) = true := by simp; omega
              have HELo := HEL.out
              clear hEL HELo HEL
              go_wp2_with fail
              go_quiet (fail)
              go_wp2
              go_ret
              exact ⟨rfl, below_drew HB9.out nq⟩
  · have HB2 := Lib.hid (HB.out.trans (hb2.mono HB.out.size))
    clear hb2
    go_wp2
    go_ret
    exact ⟨rfl, HB2.out⟩
theorem turned_walk_n (A : Option Addr) (M c : Nat) (ls : List (List Int)) (x y : Int) (hx : -9223372036854775808 ≤ x ∧ x ≤ 9223372036854775807 ∧ -9223372036854775808 ≤ y ∧ y ≤ 9223372036854775807) (n : Int) (hn : (Lit.int .u32 n).wf = true) (w : World) (hq : RdL w A M ls) (hMc : M ≤ c) (hA : A = none → c = 0) :
    Calls Try.prog 6 #[.slice A M c, .agg #[.int .i64 x, .int .i64 y], .int .u32 n] w fun e w' => e = .returned (.bool true) ∧ Below w.heap.size w w' := by
  obtain ⟨T, rfl⟩ := Crc.u32_of_wf hn
  exact turned_walk A M c ls x y hx T w hq hMc hA
end Go.Proofs.Ytlppcbmhbpefaaa.Rc
