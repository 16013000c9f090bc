/-
  What the functions encode, decode, checksum and Put of package record, and the document's own four and Put, answer for whatever they are called with: a number's four bytes, the record of the bytes. Conditions: the slice's cells can be read.
-/
import Derived.Test.YtejphnbhcabchaaGreatFieldBase
import Derived.Test.YtejphnbhcabchaaGreatCrcLaws
import Derived.Test.YtejphnbhcabchaaGreatRecMath
namespace Go.Proofs.YtejphnbhcabchaaGreat.Rc
open Go.RowKit
open Fld (Bytes val Rd Sl Own wpList_append_rd)

def Made (w : World) (zs : List Int) (e : Ending) (w' : World) : Prop := ∃ v, e = .returned v ∧ Own w w' v zs
theorem rd_crc {w : World} {A : Option Addr} {n : Nat} {zs : List Int} (h : Rd w A n zs) : Crc.Rd w A n zs := h
theorem own_four (w : World) (a b c d : Int) (ha : 0 ≤ a ∧ a ≤ 255) (hb : 0 ≤ b ∧ b ≤ 255) (hc : 0 ≤ c ∧ c ≤ 255) (hd : 0 ≤ d ∧ d ≤ 255) :
    Own w (w.alloc (.cells #[.int .u8 a, .int .u8 b, .int .u8 c, .int .u8 d] 5)) (.slice (some ⟨w.heap.size, 0, none⟩) 4 4) [a, b, c, d] :=
  ⟨(Below.refl _ _).alloc (Nat.le_refl _) _, Fld.bytes_cons ha.1 ha.2 (Fld.bytes_cons hb.1 hb.2 (Fld.bytes_cons hc.1 hc.2 (Fld.bytes_cons hd.1 hd.2 Fld.bytes_nil))), rfl, .inr ⟨w.heap.size, 4, _, rfl, Nat.le_refl _, heap_alloc_new w _, Nat.le_refl _, by unfold maxLen; omega, rfl, rfl⟩⟩

theorem four_ints (n : Nat) (hn : n < 4294967296) : four n = [(n : Int) / 16777216, (n : Int) / 65536 % 256, (n : Int) / 256 % 256, (n : Int) % 256] := by
  unfold four
  simp only [List.cons.injEq, and_true]
  refine ⟨by omega, by omega, by omega, by omega⟩
set_option maxHeartbeats 400000 in
theorem encode_any (n : Nat) (hn : n < 4294967296) (w : World) : Calls Tryz.prog 104 #[.int .u32 (n : Int)] w (Made w (four n)) := by
  have h0 : (0 : Int) ≤ (n : Int) := by omega
  have h1 : (n : Int) ≤ 4294967295 := by omega
  go_enter Tryz.func104, Tryz.ntmps104
  go_wp2
  go_ret
  exact ⟨_, rfl, by rw [four_ints n hn]; exact own_four w _ _ _ _ (by omega) (by omega) (by omega) (by omega)⟩
set_option maxHeartbeats 400000 in
theorem four_any (n : Nat) (hn : n < 4294967296) (w : World) : Calls Tryz.prog 110 #[.int .u32 (n : Int)] w (Made w (four n)) := by
  have h0 : (0 : Int) ≤ (n : Int) := by omega
  have h1 : (n : Int) ≤ 4294967295 := by omega
  go_enter Tryz.func110, Tryz.ntmps110
  go_wp2
  go_ret
  exact ⟨_, rfl, by rw [four_ints n hn]; exact own_four w _ _ _ _ (by omega) (by omega) (by omega) (by omega)⟩

theorem or_step (a c : Nat) (ha : a < 16777216) (hc : c < 256) : bits .or .u32 ((a : Int) * 256) (c : Int) = ((a * 256 + c : Nat) : Int) := by
  have e : (a : Int) * 256 = ((a * 256 : Nat) : Int) := by omega
  rw [e, u32_or_nat _ _ (by omega) (by omega)]
  congr 1
  rw [show a * 256 = a <<< 8 by rw [Nat.shiftLeft_eq]]
  exact (Nat.shiftLeft_add_eq_or_of_lt (by omega : c < 2 ^ 8) a).symm
set_option maxHeartbeats 400000 in
theorem decode_any (A : Option Addr) (cap : Nat) (zs : List Int) (w : World) (h : Rd w A 4 zs) :
    Calls Tryz.prog 162 #[.slice A 4 cap] w fun e w' => e = .returned (.int .u32 ((val zs : Nat) : Int)) ∧ w = w' := by
  obtain ⟨hlen, hm, hby, hcell⟩ := h
  clear hm
  have HL := Lib.hid hlen
  have HB := Lib.hid hby
  have HC := Lib.hid hcell
  clear hlen hby hcell
  go_enter Tryz.func162, Tryz.ntmps162
  go_wp2
  go_loop [3, 8] (fun r i => ∃ k : Nat, k ≤ 4 ∧ i = .int .i64 k ∧ r = .int .u32 ((val (zs.take k) : Nat) : Int)) (fun _ i => 4 - (intOf i).toNat)
  case atStart => exact ⟨0, by omega, rfl, rfl⟩
  case round =>
    obtain ⟨k, hk, rfl, rfl⟩ := hrel
    by_cases hlt : k < 4
    · obtain ⟨b, off, rfl, hc⟩ := HC.out (by omega)
      have hck := hc k hlt
      clear hc
      have hb := Fld.getD_byte HB.out k (by rw [HL.out]; exact hlt)
      have hv := Fld.val_lt k (zs.take k) (by rw [List.length_take, HL.out]; omega) (Fld.bytes_take HB.out k)
      have hv2 : val (zs.take k) < 16777216 := by
        have : (256 : Nat) ^ k ≤ 256 ^ 3 := Nat.pow_le_pow_right (by omega) (by omega)
        have e : (256 : Nat) ^ 3 = 16777216 := by decide
        omega
      have HF := Lib.hid (show val (zs.take (k + 1)) = val (zs.take k) * 256 + (zs.getD k 0).toNat by
        rw [List.take_succ_eq_append_getElem (by rw [HL.out]; exact hlt), Fld.val_snoc, List.getD_eq_getElem?_getD, List.getElem?_eq_getElem (by rw [HL.out]; exact hlt)]
        rfl)
      clear hv
      generalize val (zs.take k) = a at *
      generalize zs.getD k 0 = c at *
      obtain ⟨c', rfl⟩ : ∃ c' : Nat, c = (c' : Int) := ⟨c.toNat, by omega⟩
      have HO := Lib.hid (or_step a c' hv2 (by omega))
      go_wp2
      go_round
      case rel => exact ⟨k + 1, by omega, by go_num, by rw [HF.out, Int.toNat_natCast, ← HO.out]⟩
      case measure => simp [intOf]; omega
    · obtain rfl : k = 4 := by omega
      go_wp2
      go_ret
      exact ⟨by rw [← HL.out, List.take_length]; rfl, rfl⟩

set_option maxHeartbeats 400000 in
theorem checksum_any (A B : Option Addr) (m n c d : Nat) (xs ys : List Int) (w : World) (hx : Rd w A m xs) (hy : Rd w B n ys) :
    Calls Tryz.prog 105 #[.slice A m c, .slice B n d] w fun e w' => e = .returned (.int .u32 (((Crc.sumS (xs ++ ys)).toNat : Nat) : Int)) ∧ w = w' := by
  have HX := Lib.hid (Crc.sum_any A m c xs w (rd_crc hx))
  have HY := Lib.hid (Crc.add_any (Crc.sumS xs) B n d ys w (rd_crc hy))
  clear hx hy
  go_enter Tryz.func105, Tryz.ntmps105
  go_wp2_with fail
  refine HX.out.mono ?_
  rintro e w' ⟨rfl, rfl⟩
  go_wp2_with fail
  refine HY.out.mono ?_
  rintro e w' ⟨rfl, rfl⟩
  go_wp2
  go_ret
  exact ⟨by rw [Crc.sumS_append]; rfl, rfl⟩

/-- make([]byte, 0, n) -/
theorem wpList_make_cap {w : World} {ops : Array Oper} {rest : List Oper} {o : Oper} {a : Act} {Q : Exit → Act → World → Prop} (hg : o.guard = none) (l c : Operand) (hop : o.op = Op.makeSlice 36 l c)
    (w0 : World) (hb : Below w0.heap.size w0 w) (L : Int) (n : Nat) (hl : a.eval l = .int .i64 0) (hc : a.eval c = .int .i64 L) (hL : L = (n : Int)) (hn : n ≤ 100000)
    (hK : ∀ w', Own w0 w' (.slice (some ⟨w.heap.size, 0, none⟩) 0 n) [] → Below w.heap.size w w' → wpList Tryz.prog ops Q rest (a.put o.dst (.slice (some ⟨w.heap.size, 0, none⟩) 0 n)) w') : wpList Tryz.prog ops Q (o :: rest) a w := by
  obtain ⟨i, hi, hz, hsz, hby⟩ := Fld.byte_info
  subst hL
  refine wpList_plain hg fun K hK' => ?_
  obtain ⟨w', hrun, hrow, hgr⟩ := run_make_own (P := Tryz.prog) w w0.heap.size 36 5 i _ 1 Tryz.underlying36 hi hz hsz .i64 .i64 n (by rw [hby]; omega) (by unfold maxLen; omega) hb.size
  unfold Oper.wp
  simp [execOp, hop, hl, hc, hrun, Result.andThen]
  refine hK' _ _ (hK w' ⟨hb.grown hgr hb.size (fun k h => by cases h), Fld.bytes_nil, hrow⟩ ((Below.refl _ _).grown hgr (Nat.le_refl _) (fun k h => by cases h)))

/-- the record that was put, of the call's own -/
def Put2 (w : World) (zs : List Int) (e : Ending) (w' : World) : Prop := ∃ v, e = .returned (.tuple #[v, .int .i64 0]) ∧ Own w w' v zs
theorem recd_own (t : List Int) (n : Nat) (hn : t.length = n) : four n ++ (four (sumN t) ++ t) = recd t := by rw [recd, hn]
set_option maxHeartbeats 800000 in
theorem put_ok (A : Option Addr) (n cap : Nat) (t : List Int) (w : World) (hr : Rd w A n t) (hA : A = none → cap = 0) (hn : n ≤ 65536) :
    Calls Tryz.prog 73 #[.slice A n cap] w (Put2 w (recd t)) := by
  have HR := Lib.hid hr
  have HA := Lib.hid hA
  have HT := Lib.hid hr.1
  have HRO := Lib.hid (recd_own t n hr.1)
  have HSN := Lib.hid (show (Crc.sumS (four n ++ t)).toNat = sumN t by rw [sumN, hr.1])
  clear hr hA
  have hni : (n : Int) ≤ 65536 := by omega
  have HE := fun W => Lib.hid (encode_any n (by omega) W)
  have HE2 := fun W => Lib.hid (encode_any (sumN t) (sumN_lt t) W)
  go_enter Tryz.func73, Tryz.ntmps73
  go_wp2_with fail
  refine (HE _).out.mono ?_
  rintro e w1 ⟨v1, rfl, hO1⟩
  obtain ⟨A1, c1, hv, hs1, _⟩ := hO1.sl 4 rfl
  subst hv
  have HS1 := Lib.hid hs1
  have HB1 := Lib.hid hO1.1
  have HR1 := Lib.hid (HR.out.below hO1.1)
  clear hs1 hO1 HE HR
  go_wp2_with (refine wpList_make_cap rfl _ _ rfl w1 (Below.refl _ _) (8 + (n : Int)) (8 + n) rfl rfl (by omega) (by omega) ?_)
  intro w2 hO2 _
  have HS2 := Lib.hid (HS1.out.below hO2.1)
  have HO2 := Lib.hid hO2
  clear hO2
  generalize w1.heap.size = g2 at *
  go_wp2_with (refine wpList_append_rd rfl _ _ rfl w1 (.slice (some ⟨g2, 0, none⟩) 0 (8 + n)) [] rfl HO2.out A1 4 c1 (four n) rfl HS2.out.2.2.2.1 HS2.out.1 (by simp) ?_)
  intro v3 w3 hO3 _ _
  try rw [List.nil_append] at hO3
  have HO3 := Lib.hid hO3
  have HS3 := Lib.hid (HS1.out.below hO3.1)
  have HR3 := Lib.hid (HR1.out.below hO3.1)
  clear hO3 HO2 HS2
  go_wp2_with fail
  refine (checksum_any A1 A 4 n c1 cap (four n) t _ HS3.out.1 HR3.out).mono ?_
  rintro e w3' ⟨rfl, rfl⟩
  rw [HSN.out]
  go_wp2_with fail
  refine (HE2 _).out.mono ?_
  rintro e w4 ⟨v4, rfl, hO4⟩
  obtain ⟨A4, c4, hv, hs4, _⟩ := hO4.sl 4 rfl
  subst hv
  have HS4 := Lib.hid hs4
  have HO4 := Lib.hid (HO3.out.below hO4.1)
  clear hs4 hO4
  go_wp2_with (refine wpList_append_rd rfl _ _ rfl w1 v3 (four n) rfl HO4.out A4 4 c4 (four (sumN t)) rfl HS4.out.2.2.2.1 HS4.out.1 (by simp [four]) ?_)
  intro v5 w5 hO5 _ _
  have HO5 := Lib.hid hO5
  have HR5 := Lib.hid (HR1.out.below hO5.1)
  clear hO5
  go_wp2_with (refine wpList_append_rd rfl _ _ rfl w1 v5 (four n ++ four (sumN t)) rfl HO5.out A n cap t rfl HA.out HR5.out (by simp [four]; omega) ?_)
  intro v6 w6 hO6 _ _
  rw [HRO.out] at hO6
  have HO6 := Lib.hid (hO6.since HB1.out)
  clear hO6
  go_wp2
  go_ret2
  exact ⟨_, rfl, HO6.out⟩
set_option maxHeartbeats 800000 in
theorem put_big (A : Option Addr) (n cap : Nat) (w : World) (hn : 65536 < n) (hm : n ≤ maxLen) :
    Calls Tryz.prog 73 #[.slice A n cap] w fun e w' => e = .returned (.tuple #[.slice none 0 0, .int .i64 3]) ∧ w = w' := by
  unfold maxLen at hm
  have hni : (65536 : Int) < (n : Int) := by omega
  go_enter Tryz.func73, Tryz.ntmps73
  go_wp2
  go_ret2
  exact ⟨rfl, rfl⟩
set_option maxHeartbeats 800000 in
theorem refput_big (A : Option Addr) (n cap : Nat) (w : World) (hn : 65536 < n) (hm : n ≤ maxLen) :
    Calls Tryz.prog 76 #[.slice A n cap] w fun e w' => e = .returned (.tuple #[.slice none 0 0, .int .i64 3]) ∧ w = w' := by
  unfold maxLen at hm
  have hni : (65536 : Int) < (n : Int) := by omega
  go_enter Tryz.func76, Tryz.ntmps76
  go_wp2
  go_ret2
  exact ⟨rfl, rfl⟩
theorem uv_nat (s : BitVec 32) : Crc.uv s = ((s.toNat : Nat) : Int) := rfl
set_option maxHeartbeats 800000 in
theorem refput_ok (A : Option Addr) (n cap : Nat) (t : List Int) (w : World) (hr : Rd w A n t) (hA : A = none → cap = 0) (hn : n ≤ 65536) :
    Calls Tryz.prog 76 #[.slice A n cap] w (Put2 w (recd t)) := by
  have HR := Lib.hid hr
  have HA := Lib.hid hA
  have HT := Lib.hid hr.1
  have HRO := Lib.hid (recd_own t n hr.1)
  have HSN := Lib.hid (show Crc.uv (Crc.sumS (four n ++ t)) = ((sumN t : Nat) : Int) by rw [sumN, hr.1]; rfl)
  clear hr hA
  have hni : (n : Int) ≤ 65536 := by omega
  have HE := fun W => Lib.hid (four_any n (by omega) W)
  have HE2 := fun W => Lib.hid (four_any (sumN t) (sumN_lt t) W)
  go_enter Tryz.func76, Tryz.ntmps76
  go_wp2_with fail
  refine (HE _).out.mono ?_
  rintro e w1 ⟨v1, rfl, hO1⟩
  obtain ⟨A1, c1, hv, hs1, _⟩ := hO1.sl 4 rfl
  subst hv
  have HS1 := Lib.hid hs1
  have HB1 := Lib.hid hO1.1
  have HR1 := Lib.hid (HR.out.below hO1.1)
  clear hs1 hO1 HE HR
  have HO2 := Lib.hid (Own.made w1 w1 (Below.refl _ _))
  have HS2 := Lib.hid (HS1.out.below HO2.out.1)
  unfold Fld.noneBlk at HO2 HS2
  go_wp2_with (first | (refine wpList_append_rd rfl _ _ rfl w1 (.slice (some ⟨w1.heap.size, 0, none⟩) 0 0) [] rfl HO2.out A1 4 c1 (four n) rfl HS2.out.2.2.2.1 HS2.out.1 (by simp) ?_))
  intro v3 w3 hO3 _ _
  try rw [List.nil_append] at hO3
  have HO3 := Lib.hid hO3
  have HS3 := Lib.hid (HS1.out.below hO3.1)
  have HR3 := Lib.hid (HR1.out.below hO3.1)
  clear hO3 HO2 HS2
  go_wp2_with (refine wpList_append_rd rfl _ _ rfl w1 v3 (four n) rfl HO3.out A n cap t rfl HA.out HR3.out (by simp [four]; omega) ?_)
  intro v4 w4 hO4 _ _
  obtain ⟨A4, c4, hv, hs4, _⟩ := hO4.sl (4 + n) (by rw [List.length_append, four_len, HT.out])
  subst hv
  have HS4 := Lib.hid hs4
  have HB4 := Lib.hid hO4.1
  clear hs4 hO4
  go_wp2_with fail
  refine (Crc.refsum_any A4 (4 + n) c4 (four n ++ t) _ (rd_crc HS4.out.1)).mono ?_
  rintro e w4' ⟨rfl, rfl⟩
  rw [HSN.out]
  have HO5 := Lib.hid (Own.made w1 w4 HB4.out)
  have HS5 := Lib.hid (HS1.out.below HO5.out.1)
  unfold Fld.noneBlk at HO5 HS5
  go_wp2_with (refine wpList_append_rd rfl _ _ rfl w1 (.slice (some ⟨w4.heap.size, 0, none⟩) 0 0) [] rfl HO5.out A1 4 c1 (four n) rfl HS5.out.2.2.2.1 HS5.out.1 (by simp) ?_)
  intro v6 w6 hO6 _ _
  try rw [List.nil_append] at hO6
  have HO6 := Lib.hid hO6
  clear hO6 HO5 HS5
  go_wp2_with fail
  refine (HE2 _).out.mono ?_
  rintro e w7 ⟨v7, rfl, hO7⟩
  obtain ⟨A7, c7, hv, hs7, _⟩ := hO7.sl 4 rfl
  subst hv
  have HS7 := Lib.hid hs7
  have HO7 := Lib.hid (HO6.out.below hO7.1)
  clear hs7 hO7
  go_wp2_with (refine wpList_append_rd rfl _ _ rfl w1 v6 (four n) rfl HO7.out A7 4 c7 (four (sumN t)) rfl HS7.out.2.2.2.1 HS7.out.1 (by simp [four]) ?_)
  intro v8 w8 hO8 _ _
  have HO8 := Lib.hid hO8
  have HR8 := Lib.hid (HR1.out.below hO8.1)
  clear hO8
  go_wp2_with (refine wpList_append_rd rfl _ _ rfl w1 v8 (four n ++ four (sumN t)) rfl HO8.out A n cap t rfl HA.out HR8.out (by simp [four]; omega) ?_)
  intro v9 w9 hO9 _ _
  rw [HRO.out] at hO9
  have HO9 := Lib.hid (hO9.since HB1.out)
  clear hO9
  go_wp2
  go_ret2
  exact ⟨_, rfl, HO9.out⟩

end Go.Proofs.YtejphnbhcabchaaGreat.Rc
