/-
  That the law FieldBack answers true and leaves all memory that was there as it was. Conditions: the slice can be read.
-/
import Derived.Test.YtiegihopjhbliaaFieldNum
import Derived.Test.YtiegihopjhbliaaFieldInt
import Derived.Test.YtiegihopjhbliaaFieldTxt
import Derived.Test.YtiegihopjhbliaaFieldMore
namespace Go.Proofs.Ytiegihopjhbliaa.Fld
open Go.RowKit

/-- a reader beside another one that was used -/
theorem Rdr.chg {w w' : World} {g g' : Nat} {zs zs' : List Int} {bad bad' : Bool} (h : Rdr w g zs bad) (hc : Chg g' w w') (hg : g ≠ g') (h' : Rdr w g' zs' bad') : Rdr w' g zs bad := by
  obtain ⟨A, n, cap, h1, h2, h3⟩ := h
  obtain ⟨A', n', cap', h1', _⟩ := h'
  exact ⟨A, n, cap, h1.of_block (hc.block g h1.lt hg), h2.chg hc h1', h3⟩
theorem Sl.rdr {w w' : World} {g : Nat} {A : Option Addr} {n cap : Nat} {zs zs' : List Int} {bad : Bool} (h : Sl w A n cap zs) (hc : Chg g w w') (h' : Rdr w g zs' bad) : Sl w' A n cap zs := by
  obtain ⟨A', n', cap', h1', _⟩ := h'
  exact h.chg hc h1'
theorem wholeB_tail (c : Int) (r : List Int) : wholeB (c :: r) false = false := rfl
theorem wholeB_nil : wholeB [] false = true := rfl

set_option maxHeartbeats 1600000 in
theorem back_walk (n : Nat) (hn : n < 18446744073709551616) (x : Int) (hx0 : -9223372036854775808 ≤ x) (hx1 : x ≤ 9223372036854775807) (A : Option Addr) (m cap : Nat) (b : List Int) (w : World) (hr : Rd w A m b) (hA : A = none → cap = 0) (hm : m ≤ 140737488351232) :
    Calls Try.prog 7 #[.int .u64 (n : Int), .int .i64 x, .slice A m cap] w fun e w' => e = .returned (.bool true) ∧ Below w.heap.size w w' := by
  have HB := Lib.hid hr
  have HA := Lib.hid hA
  have HLB := Lib.hid hr.1
  have l1 := digs_len8 n hn
  have l2 := digs_len8 x.natAbs (by omega)
  have l3 := digs_len8 m (by omega)
  have HC1 := Lib.hid (code_len n)
  have HC2 := Lib.hid (intC_len x)
  have HC3 := Lib.hid (textC_len b)
  rw [hr.1] at HC3
  clear hr hA
  generalize (digs n).length = k1 at *
  generalize (digs x.natAbs).length = k2 at *
  generalize (digs m).length = k3 at *
  have HL1 := Lib.hid (show ([] : List Int).length + (k1 + 1) ≤ 140737488355328 by simp only [List.length_nil]; omega)
  have HL2 := Lib.hid (show ([] ++ code n).length + (k2 + 1) ≤ 140737488355328 by rw [List.nil_append, HC1.out]; omega)
  have HL3 := Lib.hid (show ([] ++ code n ++ intC x).length + (k3 + 1 + m) ≤ 140737488355328 by rw [List.nil_append, List.length_append, HC1.out, HC2.out]; omega)
  have HO0 := Lib.hid (Own.made w w (Below.refl _ _))
  unfold noneBlk at HO0
  go_enter Try.func7, Try.ntmps7
  go_wp2_with fail
  refine (number_any n hn _).mono ?_
  rintro e w1 ⟨v1, rfl, hO1⟩
  obtain ⟨A1, c1, hv1, hs1, _⟩ := hO1.sl _ HC1.out
  subst hv1
  have HOa := Lib.hid (HO0.out.below hO1.1)
  have HS1 := Lib.hid hs1
  clear hs1 hO1 HO0
  go_wp2_with (refine wpList_append_rd rfl _ _ rfl w _ [] rfl HOa.out A1 (k1 + 1) c1 (code n) rfl HS1.out.2.2.2.1 HS1.out.1 HL1.out ?_)
  intro v2 w2 hO2 _ _
  have HO2 := Lib.hid hO2
  clear hO2 HOa HS1
  go_wp2_with fail
  refine (int_any x hx0 hx1 _).mono ?_
  rintro e w3 ⟨v3, rfl, hO3⟩
  obtain ⟨A3, c3, hv3, hs3, _⟩ := hO3.sl _ HC2.out
  subst hv3
  have HOb := Lib.hid (HO2.out.below hO3.1)
  have HS3 := Lib.hid hs3
  clear hs3 hO3 HO2
  go_wp2_with (refine wpList_append_rd rfl _ _ rfl w v2 ([] ++ code n) rfl HOb.out A3 (k2 + 1) c3 (intC x) rfl HS3.out.2.2.2.1 HS3.out.1 HL2.out ?_)
  intro v4 w4 hO4 _ _
  have HO4 := Lib.hid hO4
  clear hO4 HOb HS3
  go_wp2_with fail
  refine (text_any A m cap b _ (HB.out.below HO4.out.1) HA.out hm).mono ?_
  rintro e w5 ⟨v5, rfl, hO5⟩
  obtain ⟨A5, c5, hv5, hs5, _⟩ := hO5.sl _ HC3.out
  subst hv5
  have HOc := Lib.hid (HO4.out.below hO5.1)
  have HS5 := Lib.hid hs5
  clear hs5 hO5 HO4
  go_wp2_with (refine wpList_append_rd rfl _ _ rfl w v4 ([] ++ code n ++ intC x) rfl HOc.out A5 (k3 + 1 + m) c5 (textC b) rfl HS5.out.2.2.2.1 HS5.out.1 HL3.out ?_)
  intro v6 w6 hO6 _ _
  clear HOc HS5
  have HLC := Lib.hid (show (code n ++ (intC x ++ textC b)).length = k1 + 1 + (k2 + 1 + (k3 + 1 + m)) by simp only [List.length_append, HC1.out, HC2.out, HC3.out])
  obtain ⟨A6, c6, hv6, hs6, hg6⟩ := hO6.sl _ HLC.out
  subst hv6
  have HD1 := Lib.hid (fun t => cutNum_code n hn ((intC x ++ textC b) ++ t))
  have HD2 := Lib.hid (fun t => cutInt_code x hx0 hx1 (textC b ++ t))
  have HD3 := Lib.hid (fun t => cutText_code b (by rw [HLB.out]; omega) t)
  have HS6 := Lib.hid hs6
  have HB6 := Lib.hid hO6.1
  have HO7 := Lib.hid (Own.made w w6 hO6.1)
  unfold noneBlk at HO7
  have HS7 := Lib.hid (hs6.below ((Below.refl _ _).alloc (Nat.le_refl _) (.cells #[] 5)))
  have HLT := Lib.hid (show ∀ a, A6 = some a → a.block < w6.heap.size by
    intro a ha
    obtain ⟨b', off', he, hcc⟩ := hs6.1.addr 0 (by omega)
    rw [ha] at he
    injection he with he
    subst he
    exact lt_of_cell hcc)
  clear hs6 hO6 hg6 HC1 HC2 HC3 HL1 HL2 HL3
  generalize hL : k1 + 1 + (k2 + 1 + (k3 + 1 + m)) = L at *
  have hL1 : 3 ≤ L := by omega
  have hL2 : L ≤ 140737488355300 := by omega
  clear hL
  generalize hC : code n ++ (intC x ++ textC b) = C at *
  have HCE := Lib.hid hC
  clear hC
  have HB1 := Lib.hid (show ([] : List Int).length + L ≤ 140737488355328 by simp only [List.length_nil]; omega)
  have HB2 := Lib.hid (show C.length + 2 ≤ 140737488355328 by rw [HLC.out]; omega)
  go_wp2_with (refine wpList_append_rd rfl _ _ rfl w (.slice (some ⟨w6.heap.size, 0, none⟩) 0 0) [] rfl HO7.out A6 L c6 C rfl HS7.out.2.2.2.1 HS7.out.1 HB1.out ?_)
  intro v8 w8 hO8 hg8 hat8
  have HR8 := Lib.hid (HS7.out.1.grown hg8 (fun a ha h => by have := HLT.out a ha; simp [Value.ownBlock] at h; omega))
  have HAT8 := Lib.hid (show ∀ a, A6 = some a → v8.ownBlock ≠ some a.block by
    intro a ha h
    have := HLT.out a ha
    rcases hat8 with h8 | h8
    · rw [h8] at h; simp [Value.ownBlock] at h; omega
    · rw [h8] at h; simp at h; omega)
  have HO8 := Lib.hid (hO8.alloc (.cells #[.int .u8 9, .int .u8 9] 5))
  have HRt := Lib.hid (Rd.two w8 9 9 (by omega) (by omega))
  have HR9 := Lib.hid (HR8.out.below ((Below.refl _ _).alloc (Nat.le_refl _) (.cells #[.int .u8 9, .int .u8 9] 5)))
  clear hO8 hg8 hat8 HO7 HR8
  go_wp2_with (refine wpList_append_rd rfl _ _ rfl w v8 C rfl HO8.out (some ⟨w8.heap.size, 0, none⟩) 2 2 [9, 9] rfl (fun h => by cases h) HRt.out HB2.out ?_)
  intro v10 w10 hO10 hg10 _
  have HR10 := Lib.hid (HR9.out.grown hg10 HAT8.out)
  obtain ⟨A10, c10, hv10, hs10, _⟩ := hO10.sl (L + 2) (by rw [List.length_append, HLC.out]; rfl)
  subst hv10
  have HS10 := Lib.hid hs10
  have HB10 := Lib.hid hO10.1
  have HA6 := Lib.hid HS7.out.2.2.2.1
  clear hs10 hO10 hg10 HO8 HRt HR9 HAT8 HS7 HS6
  go_wp2_with fail
  refine (new_any A10 (L + 2) c10 (C ++ [9, 9]) _ HS10.out.1 HS10.out.2.2.2.1 (by omega)).mono ?_
  rintro e w11 ⟨g1, rfl, hg1, hr1, hb1⟩
  have HB11 := Lib.hid (HB10.out.trans (hb1.mono HB10.out.size))
  have HR11 := Lib.hid (HR10.out.below hb1)
  have hgw : w.heap.size ≤ g1 := by have := HB10.out.size; omega
  have HQ1 := Lib.hid hr1
  clear hr1 hb1 HS10 HR10 HB10
  go_wp2_with fail
  refine (new_any A6 L c6 C _ HR11.out HA6.out (by omega)).mono ?_
  rintro e w12 ⟨g2, rfl, hg2, hr2, hb2⟩
  have HB12 := Lib.hid (HB11.out.trans (hb2.mono HB11.out.size))
  have hgg : ¬ g1 = g2 := by have := HQ1.out.lt; omega
  have hgw2 : w.heap.size ≤ g2 := by have := HB11.out.size; omega
  have HQ1b := Lib.hid (HQ1.out.below hb2)
  have HQ2 := Lib.hid hr2
  clear hr2 hb2 HQ1 HR11 HB11 hg1 hg2
  have hL3 : ¬ ((L : Int) < 3) := by omega
  have e1 : C ++ [9, 9] = code n ++ (intC x ++ textC b ++ [9, 9]) := by rw [← HCE.out, List.append_assoc]
  have e2 : intC x ++ textC b ++ [9, 9] = intC x ++ (textC b ++ [9, 9]) := List.append_assoc _ _ _
  have HE1 := Lib.hid ((congrArg cutNum e1).trans (HD1.out [9, 9]))
  have HE2 := Lib.hid ((congrArg cutInt e2).trans (HD2.out [9, 9]))
  have HE3 := Lib.hid (HD3.out [9, 9])
  have e4 : C = code n ++ (intC x ++ textC b ++ []) := by rw [List.append_nil]; exact HCE.out.symm
  have e5 : intC x ++ textC b ++ [] = intC x ++ (textC b ++ []) := List.append_assoc _ _ _
  have HE4 := Lib.hid ((congrArg cutNum e4).trans (HD1.out []))
  have HE5 := Lib.hid ((congrArg cutInt e5).trans (HD2.out []))
  have HE6 := Lib.hid (HD3.out [])
  clear e1 e2 e4 e5 HD1 HD2 HD3 HCE HLC HB1 HB2 HLT
  have HLm := Lib.hid (show (b.length : Int) ≤ (m : Int) by rw [HLB.out]; omega)
  go_wp2_with fail
  refine (num_ok g1 _ w12 HQ1b.out n _ HE1.out (n : Int) (Int.le_refl _)).mono ?_
  rintro e w13 ⟨rfl, hch, hr⟩
  have HQ3 := Lib.hid hr
  have HQ4 := Lib.hid (HQ2.out.chg hch (Ne.symm hgg) HQ1b.out)
  have HB13 := Lib.hid (Below.chg HB12.out hch hgw)
  clear hch hr HQ1b HQ2 HB12 HE1
  go_wp2_with fail
  refine (rint_ok g1 _ w13 HQ3.out x _ HE2.out x x (Int.le_refl _) (Int.le_refl _)).mono ?_
  rintro e w14 ⟨rfl, hch, hr⟩
  have HQ5 := Lib.hid hr
  have HQ6 := Lib.hid (HQ4.out.chg hch (Ne.symm hgg) HQ3.out)
  have HB14 := Lib.hid (Below.chg HB13.out hch hgw)
  clear hch hr HQ3 HQ4 HB13 HE2
  go_wp2_with fail
  refine (rtext_ok g1 _ w14 HQ5.out b _ HE3.out (m : Int) HLm.out).mono ?_
  rintro e w15 ⟨A15, n15, c15, rfl, hs15, hch, hr⟩
  have HS15 := Lib.hid hs15
  have HQ7 := Lib.hid hr
  have HQ8 := Lib.hid (HQ6.out.chg hch (Ne.symm hgg) HQ5.out)
  have HB15 := Lib.hid (Below.chg HB14.out hch hgw)
  clear hch hr HQ5 HQ6 HB14 HE3 hs15
  go_wp2_with fail
  refine (num_ok g2 _ w15 HQ8.out n _ HE4.out (n : Int) (Int.le_refl _)).mono ?_
  rintro e w16 ⟨rfl, hch, hr⟩
  have HS16 := Lib.hid (HS15.out.rdr hch HQ8.out)
  have HQ9 := Lib.hid hr
  have HQa := Lib.hid (HQ7.out.chg hch hgg HQ8.out)
  have HB16 := Lib.hid (Below.chg HB15.out hch hgw2)
  clear hch hr HQ7 HQ8 HB15 HE4 HS15
  go_wp2_with fail
  refine (rint_ok g2 _ w16 HQ9.out x _ HE5.out x x (Int.le_refl _) (Int.le_refl _)).mono ?_
  rintro e w17 ⟨rfl, hch, hr⟩
  have HS17 := Lib.hid (HS16.out.rdr hch HQ9.out)
  have HQb := Lib.hid hr
  have HQc := Lib.hid (HQa.out.chg hch hgg HQ9.out)
  have HB17 := Lib.hid (Below.chg HB16.out hch hgw2)
  clear hch hr HQ9 HQa HB16 HE5 HS16
  go_wp2_with fail
  refine (rtext_ok g2 _ w17 HQb.out b _ HE6.out (m : Int) HLm.out).mono ?_
  rintro e w18 ⟨A18, n18, c18, rfl, _, hch, hr⟩
  have HS18 := Lib.hid (HS17.out.rdr hch HQb.out)
  have HQd := Lib.hid hr
  have HQe := Lib.hid (HQc.out.chg hch hgg HQb.out)
  have HB18 := Lib.hid (Below.chg HB17.out hch hgw2)
  clear hch hr HQb HQc HB17 HE6 HS17
  have q1 := conv_str HS18.out.1 c15
  have q2 := conv_str (HB.out.below HB18.out) cap
  go_wp2_with (first | (go_at_call_of 26 (Value.pointer (some ⟨g1, 0, none⟩)); refine (bad_any g1 _ _ _ HQe.out).mono ?_; rintro e w' ⟨rfl, rfl⟩) | (go_at_call_of 27 (Value.pointer (some ⟨g1, 0, none⟩)); refine (whole_any g1 _ _ _ HQe.out).mono ?_; rintro e w' ⟨rfl, rfl⟩; rw [wholeB_tail]) | (go_at_call_of 27 (Value.pointer (some ⟨g2, 0, none⟩)); refine (whole_any g2 _ _ _ HQd.out).mono ?_; rintro e w' ⟨rfl, rfl⟩; rw [wholeB_nil]))
  go_ret
  exact ⟨rfl, HB18.out⟩
end Go.Proofs.Ytiegihopjhbliaa.Fld
