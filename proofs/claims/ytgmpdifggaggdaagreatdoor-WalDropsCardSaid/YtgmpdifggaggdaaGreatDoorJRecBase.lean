/-
  Several texts in one: What the functions encode, decode, checksum and Put of package record, and the document's own four and Put, answer for whatever they are called with: a number's four bytes, the record of the bytes. Conditions: the slice's cells can be read. What the function first of package record answers for whatever bytes: the content of the record with which they begin, in the bytes' own memory, or nothing. Conditions: the slice's cells can be read.
-/
import Derived.Test.YtgmpdifggaggdaaGreatDoorJFieldBase
import Derived.Test.YtgmpdifggaggdaaGreatDoorCrcLaws
import Derived.Test.YtgmpdifggaggdaaGreatDoorRecMath
import Derived.Deep.QuietTactic
import Derived.BigQuiet
namespace Go.Proofs.YtgmpdifggaggdaaGreatDoor.Rc
open Go.RowKit
open Fld (Bytes val Rd Sl Own wpList_append_rd)

def Made (w : World) (zs : List Int) (e : Ending) (w' : World) : Prop := ∃ v, e = .returned v ∧ Own w w' v zs
theorem rd_crc {w : World} {A : Option Addr} {n : Nat} {zs : List Int} (h : Rd w A n zs) : Crc.Rd w A n zs := h
theorem own_four (w : World) (a b c d : Int) (ha : 0 ≤ a ∧ a ≤ 255) (hb : 0 ≤ b ∧ b ≤ 255) (hc : 0 ≤ c ∧ c ≤ 255) (hd : 0 ≤ d ∧ d ≤ 255) :
    Own w (w.alloc (.cells #[.int .u8 a, .int .u8 b, .int .u8 c, .int .u8 d] 5)) (.slice (some ⟨w.heap.size, 0, none⟩) 4 4) [a, b, c, d] :=
  ⟨(Below.refl _ _).alloc (Nat.le_refl _) _, Fld.bytes_cons ha.1 ha.2 (Fld.bytes_cons hb.1 hb.2 (Fld.bytes_cons hc.1 hc.2 (Fld.bytes_cons hd.1 hd.2 Fld.bytes_nil))), rfl, .inr ⟨w.heap.size, 4, _, rfl, Nat.le_refl _, heap_alloc_new w _, Nat.le_refl _, by unfold maxLen; omega, rfl, rfl⟩⟩

theorem four_ints (n : Nat) (hn : n < 4294967296) : four n = [(n : Int) / 16777216, (n : Int) / 65536 % 256, (n : Int) / 256 % 256, (n : Int) % 256] := by
  unfold four
  simp only [List.cons.injEq, and_true]
  refine ⟨by omega, by omega, by omega, by omega⟩
set_option maxHeartbeats 400000 in
theorem encode_any (n : Nat) (hn : n < 4294967296) (w : World) : Calls Tryz.prog 132 #[.int .u32 (n : Int)] w (Made w (four n)) := by
  have h0 : (0 : Int) ≤ (n : Int) := by omega
  have h1 : (n : Int) ≤ 4294967295 := by omega
  go_enter Tryz.func132, Tryz.ntmps132
  go_wp2
  go_ret
  exact ⟨_, rfl, by rw [four_ints n hn]; exact own_four w _ _ _ _ (by omega) (by omega) (by omega) (by omega)⟩
theorem or_step (a c : Nat) (ha : a < 16777216) (hc : c < 256) : bits .or .u32 ((a : Int) * 256) (c : Int) = ((a * 256 + c : Nat) : Int) := by
  have e : (a : Int) * 256 = ((a * 256 : Nat) : Int) := by omega
  rw [e, u32_or_nat _ _ (by omega) (by omega)]
  congr 1
  rw [show a * 256 = a <<< 8 by rw [Nat.shiftLeft_eq]]
  exact (Nat.shiftLeft_add_eq_or_of_lt (by omega : c < 2 ^ 8) a).symm
set_option maxHeartbeats 400000 in
theorem decode_any (A : Option Addr) (cap : Nat) (zs : List Int) (w : World) (h : Rd w A 4 zs) :
    Calls Tryz.prog 140 #[.slice A 4 cap] w fun e w' => e = .returned (.int .u32 ((val zs : Nat) : Int)) ∧ w = w' := by
  obtain ⟨hlen, hm, hby, hcell⟩ := h
  clear hm
  have HL := Lib.hid hlen
  have HB := Lib.hid hby
  have HC := Lib.hid hcell
  clear hlen hby hcell
  go_enter Tryz.func140, Tryz.ntmps140
  go_wp2
  go_loop [3, 8] (fun r i => ∃ k : Nat, k ≤ 4 ∧ i = .int .i64 k ∧ r = .int .u32 ((val (zs.take k) : Nat) : Int)) (fun _ i => 4 - (intOf i).toNat)
  case atStart => exact ⟨0, by omega, rfl, rfl⟩
  case round =>
    obtain ⟨k, hk, rfl, rfl⟩ := hrel
    by_cases hlt : k < 4
    · obtain ⟨b, off, rfl, hc⟩ := HC.out (by omega)
      have hck := hc k hlt
      clear hc
      have hb := Fld.getD_byte HB.out k (by rw [HL.out]; exact hlt)
      have hv := Fld.val_lt k (zs.take k) (by rw [List.length_take, HL.out]; omega) (Fld.bytes_take HB.out k)
      have hv2 : val (zs.take k) < 16777216 := by
        have : (256 : Nat) ^ k ≤ 256 ^ 3 := Nat.pow_le_pow_right (by omega) (by omega)
        have e : (256 : Nat) ^ 3 = 16777216 := by decide
        omega
      have HF := Lib.hid (show val (zs.take (k + 1)) = val (zs.take k) * 256 + (zs.getD k 0).toNat by
        rw [List.take_succ_eq_append_getElem (by rw [HL.out]; exact hlt), Fld.val_snoc, List.getD_eq_getElem?_getD, List.getElem?_eq_getElem (by rw [HL.out]; exact hlt)]
        rfl)
      clear hv
      generalize val (zs.take k) = a at *
      generalize zs.getD k 0 = c at *
      obtain ⟨c', rfl⟩ : ∃ c' : Nat, c = (c' : Int) := ⟨c.toNat, by omega⟩
      have HO := Lib.hid (or_step a c' hv2 (by omega))
      go_wp2
      go_round
      case rel => exact ⟨k + 1, by omega, by go_num, by rw [HF.out, Int.toNat_natCast, ← HO.out]⟩
      case measure => simp [intOf]; omega
    · obtain rfl : k = 4 := by omega
      go_wp2
      go_ret
      exact ⟨by rw [← HL.out, List.take_length]; rfl, rfl⟩

set_option maxHeartbeats 400000 in
theorem checksum_any (A B : Option Addr) (m n c d : Nat) (xs ys : List Int) (w : World) (hx : Rd w A m xs) (hy : Rd w B n ys) :
    Calls Tryz.prog 133 #[.slice A m c, .slice B n d] w fun e w' => e = .returned (.int .u32 (((Crc.sumS (xs ++ ys)).toNat : Nat) : Int)) ∧ w = w' := by
  have HX := Lib.hid (Crc.sum_any A m c xs w (rd_crc hx))
  have HY := Lib.hid (Crc.add_any (Crc.sumS xs) B n d ys w (rd_crc hy))
  clear hx hy
  go_enter Tryz.func133, Tryz.ntmps133
  go_wp2_with fail
  refine HX.out.mono ?_
  rintro e w' ⟨rfl, rfl⟩
  go_wp2_with fail
  refine HY.out.mono ?_
  rintro e w' ⟨rfl, rfl⟩
  go_wp2
  go_ret
  exact ⟨by rw [Crc.sumS_append]; rfl, rfl⟩

/-- make([]byte, 0, n) -/
theorem wpList_make_cap {w : World} {ops : Array Oper} {rest : List Oper} {o : Oper} {a : Act} {Q : Exit → Act → World → Prop} (hg : o.guard = none) (l c : Operand) (hop : o.op = Op.makeSlice 45 l c)
    (w0 : World) (hb : Below w0.heap.size w0 w) (L : Int) (n : Nat) (hl : a.eval l = .int .i64 0) (hc : a.eval c = .int .i64 L) (hL : L = (n : Int)) (hn : n ≤ 100000)
    (hK : ∀ w', Own w0 w' (.slice (some ⟨w.heap.size, 0, none⟩) 0 n) [] → Below w.heap.size w w' → wpList Tryz.prog ops Q rest (a.put o.dst (.slice (some ⟨w.heap.size, 0, none⟩) 0 n)) w') : wpList Tryz.prog ops Q (o :: rest) a w := by
  obtain ⟨i, hi, hz, hsz, hby⟩ := Fld.byte_info
  subst hL
  refine wpList_plain hg fun K hK' => ?_
  obtain ⟨w', hrun, hrow, hgr⟩ := run_make_own (P := Tryz.prog) w w0.heap.size 45 5 i _ 1 Tryz.underlying45 hi hz hsz .i64 .i64 n (by rw [hby]; omega) (by unfold maxLen; omega) hb.size
  unfold Oper.wp
  simp [execOp, hop, hl, hc, hrun, Result.andThen]
  refine hK' _ _ (hK w' ⟨hb.grown hgr hb.size (fun k h => by cases h), Fld.bytes_nil, hrow⟩ ((Below.refl _ _).grown hgr (Nat.le_refl _) (fun k h => by cases h)))

/-- the record that was put, of the call's own -/
def Put2 (w : World) (zs : List Int) (e : Ending) (w' : World) : Prop := ∃ v, e = .returned (.tuple #[v, .int .i64 0]) ∧ Own w w' v zs
theorem recd_own (t : List Int) (n : Nat) (hn : t.length = n) : four n ++ (four (sumN t) ++ t) = recd t := by rw [recd, hn]
set_option maxHeartbeats 800000 in
theorem put_ok (A : Option Addr) (n cap : Nat) (t : List Int) (w : World) (hr : Rd w A n t) (hA : A = none → cap = 0) (hn : n ≤ 65536) :
    Calls Tryz.prog 102 #[.slice A n cap] w (Put2 w (recd t)) := by
  have HR := Lib.hid hr
  have HA := Lib.hid hA
  have HT := Lib.hid hr.1
  have HRO := Lib.hid (recd_own t n hr.1)
  have HSN := Lib.hid (show (Crc.sumS (four n ++ t)).toNat = sumN t by rw [sumN, hr.1])
  clear hr hA
  have hni : (n : Int) ≤ 65536 := by omega
  have HE := fun W => Lib.hid (encode_any n (by omega) W)
  have HE2 := fun W => Lib.hid (encode_any (sumN t) (sumN_lt t) W)
  go_enter Tryz.func102, Tryz.ntmps102
  go_wp2_with fail
  refine (HE _).out.mono ?_
  rintro e w1 ⟨v1, rfl, hO1⟩
  obtain ⟨A1, c1, hv, hs1, _⟩ := hO1.sl 4 rfl
  subst hv
  have HS1 := Lib.hid hs1
  have HB1 := Lib.hid hO1.1
  have HR1 := Lib.hid (HR.out.below hO1.1)
  clear hs1 hO1 HE HR
  go_wp2_with (refine wpList_make_cap rfl _ _ rfl w1 (Below.refl _ _) (8 + (n : Int)) (8 + n) rfl rfl (by omega) (by omega) ?_)
  intro w2 hO2 _
  have HS2 := Lib.hid (HS1.out.below hO2.1)
  have HO2 := Lib.hid hO2
  clear hO2
  generalize w1.heap.size = g2 at *
  go_wp2_with (refine wpList_append_rd rfl _ _ rfl w1 (.slice (some ⟨g2, 0, none⟩) 0 (8 + n)) [] rfl HO2.out A1 4 c1 (four n) rfl HS2.out.2.2.2.1 HS2.out.1 (by simp) ?_)
  intro v3 w3 hO3 _ _
  try rw [List.nil_append] at hO3
  have HO3 := Lib.hid hO3
  have HS3 := Lib.hid (HS1.out.below hO3.1)
  have HR3 := Lib.hid (HR1.out.below hO3.1)
  clear hO3 HO2 HS2
  go_wp2_with fail
  refine (checksum_any A1 A 4 n c1 cap (four n) t _ HS3.out.1 HR3.out).mono ?_
  rintro e w3' ⟨rfl, rfl⟩
  rw [HSN.out]
  go_wp2_with fail
  refine (HE2 _).out.mono ?_
  rintro e w4 ⟨v4, rfl, hO4⟩
  obtain ⟨A4, c4, hv, hs4, _⟩ := hO4.sl 4 rfl
  subst hv
  have HS4 := Lib.hid hs4
  have HO4 := Lib.hid (HO3.out.below hO4.1)
  clear hs4 hO4
  go_wp2_with (refine wpList_append_rd rfl _ _ rfl w1 v3 (four n) rfl HO4.out A4 4 c4 (four (sumN t)) rfl HS4.out.2.2.2.1 HS4.out.1 (by simp [four]) ?_)
  intro v5 w5 hO5 _ _
  have HO5 := Lib.hid hO5
  have HR5 := Lib.hid (HR1.out.below hO5.1)
  clear hO5
  go_wp2_with (refine wpList_append_rd rfl _ _ rfl w1 v5 (four n ++ four (sumN t)) rfl HO5.out A n cap t rfl HA.out HR5.out (by simp [four]; omega) ?_)
  intro v6 w6 hO6 _ _
  rw [HRO.out] at hO6
  have HO6 := Lib.hid (hO6.since HB1.out)
  clear hO6
  go_wp2
  go_ret2
  exact ⟨_, rfl, HO6.out⟩
set_option maxHeartbeats 800000 in
theorem put_big (A : Option Addr) (n cap : Nat) (w : World) (hn : 65536 < n) (hm : n ≤ maxLen) :
    Calls Tryz.prog 102 #[.slice A n cap] w fun e w' => e = .returned (.tuple #[.slice none 0 0, .int .i64 3]) ∧ w = w' := by
  unfold maxLen at hm
  have hni : (65536 : Int) < (n : Int) := by omega
  go_enter Tryz.func102, Tryz.ntmps102
  go_wp2
  go_ret2
  exact ⟨rfl, rfl⟩
theorem uv_nat (s : BitVec 32) : Crc.uv s = ((s.toNat : Nat) : Int) := rfl
end Go.Proofs.YtgmpdifggaggdaaGreatDoor.Rc

namespace Go.Proofs.YtgmpdifggaggdaaGreatDoor.Rc
open Go.RowKit
open Fld (Bytes val Rd Own past)
set_option linter.unusedVariables false

/-- a slice that holds the bytes zs, with its capacity -/
def Sl (w : World) (A : Option Addr) (n cap : Nat) (zs : List Int) : Prop := Rd w A n zs ∧ n ≤ cap ∧ cap ≤ maxLen ∧ (A = none → cap = 0)
theorem Sl.of {w : World} {A : Option Addr} {n cap : Nat} {zs : List Int} (h : Fld.Sl w A n cap zs) : Sl w A n cap zs := ⟨h.1, h.2.1, h.2.2.1, h.2.2.2.1⟩
theorem Sl.below {w w' : World} {A : Option Addr} {n cap : Nat} {zs : List Int} (h : Sl w A n cap zs) (hb : Below w.heap.size w w') : Sl w' A n cap zs := ⟨h.1.below hb, h.2⟩
theorem Sl.tail {w : World} {b off n cap : Nat} {xs : List Int} (h : Sl w (some ⟨b, off, none⟩) n cap xs) (k : Nat) (hk : k ≤ n) : Sl w (some (past ⟨b, off, none⟩ cap k)) (n - k) (cap - k) (xs.drop k) :=
  Sl.of (Fld.Sl.tail ⟨h.1, h.2.1, h.2.2.1, h.2.2.2, fun a ha => by injection ha with ha; rw [← ha]⟩ k hk)
/-- 's[:u]' -/
theorem run_to (a : Addr) (n cap u : Nat) (hu : u ≤ cap) (W : World) : (Instr.slice 45 (.slice (some a) n cap) none (some (.int .i64 (u : Int))) none).run Tryz.prog W = .ok (.slice (some a) u cap) W := by
  have h1 : (0 : Int) ≤ (u : Int) := by omega
  have h3 : (u : Int) ≤ (cap : Int) := by omega
  go_simp
theorem run_to32 (a : Addr) (n cap u : Nat) (hu : u ≤ cap) (hb : u < 4294967296) (W : World) : (Instr.slice 45 (.slice (some a) n cap) none (some (.int .u32 (u : Int))) none).run Tryz.prog W = .ok (.slice (some a) u cap) W := by
  have h1 : (0 : Int) ≤ (u : Int) := by omega
  have h3 : (u : Int) ≤ (cap : Int) := by omega
  go_simp
/-- 's[f:]' -/
theorem run_from (b off n cap f : Nat) (hf : f ≤ n) (hn : n ≤ cap) (hm : cap ≤ 9223372036854775807) (W : World) : (Instr.slice 45 (.slice (some ⟨b, off, none⟩) n cap) (some (.int .i64 (f : Int))) none none).run Tryz.prog W = .ok (.slice (some (past ⟨b, off, none⟩ cap f)) (n - f) (cap - f)) W := by
  unfold past
  by_cases h : cap = f
  · obtain rfl : n = f := by omega
    subst h
    rw [if_pos rfl]
    have h1 : (0 : Int) ≤ (cap : Int) := by omega
    go_simp
  · rw [if_neg h]
    have h1 : (0 : Int) ≤ (f : Int) := by omega
    have h2 : (f : Int) ≤ (n : Int) := by omega
    have h3 : (n : Int) ≤ (cap : Int) := by omega
    go_simp
/-- 's[f:u]' -/
theorem run_part (b off n cap f u : Nat) (hf : f ≤ u) (hu : u ≤ cap) (hc : f < cap) (W : World) : (Instr.slice 45 (.slice (some ⟨b, off, none⟩) n cap) (some (.int .i64 (f : Int))) (some (.int .i64 (u : Int))) none).run Tryz.prog W = .ok (.slice (some ⟨b, off + f, none⟩) (u - f) (cap - f)) W := by
  have h0 : ¬ cap = f := by omega
  have h1 : (0 : Int) ≤ (f : Int) := by omega
  have h2 : (f : Int) ≤ (u : Int) := by omega
  have h3 : (u : Int) ≤ (cap : Int) := by omega
  go_simp
theorem Rd.part {w : World} {b off n : Nat} {zs : List Int} (hr : Rd w (some ⟨b, off, none⟩) n zs) (f v : Nat) (h : f + v ≤ n) : Rd w (some ⟨b, off + f, none⟩) v ((zs.drop f).take v) := by
  obtain ⟨h1, h2, h3, h4⟩ := hr
  refine ⟨by rw [List.length_take, List.length_drop]; omega, by omega, Fld.bytes_take (Fld.bytes_drop h3 f) v, fun hv => ?_⟩
  obtain ⟨b', off', he, hc⟩ := h4 (by omega)
  injection he with he
  injection he with e1 e2
  subst e1 e2
  refine ⟨b, off + f, rfl, fun i hi => ?_⟩
  rw [Nat.add_assoc, hc (f + i) (by omega), List.getD_eq_getElem?_getD, List.getD_eq_getElem?_getD, List.getElem?_take, if_pos hi, List.getElem?_drop]
theorem sl_addr {w : World} {A : Option Addr} {n cap : Nat} {zs : List Int} (h : Sl w A n cap zs) (hp : 0 < n) : ∃ b off, A = some ⟨b, off, none⟩ := by
  obtain ⟨b, off, e, _⟩ := h.1.2.2.2 hp
  exact ⟨b, off, e⟩

def Nothing (w : World) (e : Ending) (w' : World) : Prop := e = .returned (.tuple #[.slice none 0 0, .bool false]) ∧ ∃ k, w' = w.drewN k
def Found (w : World) (b off n cap : Nat) (t : List Int) (e : Ending) (w' : World) : Prop := e = .returned (.tuple #[.slice (some (past ⟨b, off, none⟩ cap 8)) t.length (cap - 8), .bool true]) ∧ ∃ k, w' = w.drewN k
theorem drew0 (w : World) : w.drewN 0 = w := rfl

set_option maxHeartbeats 800000 in
theorem first_short (A : Option Addr) (n cap : Nat) (w : World) (hn : n < 8) : Calls Tryz.prog 117 #[.slice A n cap] w (Nothing w) := by
  have hni : (n : Int) < 8 := by omega
  go_enter Tryz.func117, Tryz.ntmps117
  go_wp2
  go_ret2
  exact ⟨rfl, 0, rfl⟩
set_option maxRecDepth 100000 in
set_option maxHeartbeats 1600000 in
theorem first_long (b off n cap : Nat) (zs : List Int) (w : World) (hs : Sl w (some ⟨b, off, none⟩) n cap zs) (h8 : 8 ≤ n) :
    Calls Tryz.prog 117 #[.slice (some ⟨b, off, none⟩) n cap] w fun e w' => (isRec zs → Found w b off n cap (body zs) e w') ∧ (¬ isRec zs → Nothing w e w') := by
  have hnc := hs.2.1
  have hcm := hs.2.2.1
  unfold maxLen at hcm
  have hni : ¬ (n : Int) < 8 := by omega
  have r1 := run_to ⟨b, off, none⟩ n cap 4 (by omega)
  have r2 := run_part b off n cap 4 8 (by omega) (by omega) (by omega)
  have r3 := run_from b off n cap 8 h8 hnc hcm
  push_cast at r1 r2 r3
  have HS := Lib.hid hs
  have HR1 := Lib.hid (show Rd w (some ⟨b, off, none⟩) 4 (zs.take 4) from hs.1.cut 4 (by omega))
  have HR2 := Lib.hid (Rd.part hs.1 4 4 (by omega))
  have HR3 := Lib.hid (hs.tail 8 h8)
  have HZ := Lib.hid hs.1.1
  have hv := val_lt4 (zs.take 4) (by rw [List.length_take, hs.1.1]; omega) (Fld.bytes_take hs.1.2.2.1 4)
  clear hs
  go_enter Tryz.func117, Tryz.ntmps117
  go_wp2_with fail
  go_quiet (fail)
  clear r1 r2 r3
  have HD1 := Lib.hid (decode_any (some ⟨b, off, none⟩) cap (zs.take 4) (w.drewN nq) (HR1.out.drewN nq))
  have HD2 := Lib.hid (decode_any (some ⟨b, off + 4, none⟩) (cap - 4) ((zs.drop 4).take 4) (w.drewN nq) (HR2.out.drewN nq))
  have HB := Lib.hid (show body zs = (zs.drop 8).take (val (zs.take 4)) from rfl)
  generalize hV : val (zs.take 4) = V at *
  have HV := Lib.hid hV
  clear hV
  go_wp2_with fail
  refine HD1.out.mono ?_
  rintro e w1 ⟨rfl, hw1⟩
  obtain rfl := hw1
  by_cases c1 : 65536 < V
  · have c1i : (65536 : Int) < (V : Int) := by omega
    go_wp2
    go_ret2
    exact ⟨fun h => absurd h.2.1 (by rw [HV.out]; omega), fun _ => ⟨rfl, nq, rfl⟩⟩
  · have c1i : ¬ (65536 : Int) < (V : Int) := by omega
    by_cases c2 : n - 8 < V
    · have c2i : (((n - 8 : Nat) : Int) < (V : Int)) := by omega
      go_wp2
      go_ret2
      exact ⟨fun h => absurd h.2.2.1 (by rw [HV.out, HZ.out]; omega), fun _ => ⟨rfl, nq, rfl⟩⟩
    · have c2i : ¬ (((n - 8 : Nat) : Int) < (V : Int)) := by omega
      have r4 := run_to32 (past ⟨b, off, none⟩ cap 8) (n - 8) (cap - 8) V (by omega) (by omega) (w.drewN nq)
      have HR4 := Lib.hid (HR3.out.1.cut V (by omega))
      have HCS := Lib.hid (checksum_any (some ⟨b, off, none⟩) (some (past ⟨b, off, none⟩ cap 8)) 4 V cap (cap - 8) (zs.take 4) ((zs.drop 8).take V) (w.drewN nq) (HR1.out.drewN nq) (HR4.out.drewN nq))
      rw [← HB.out] at HCS HR4
      have HL := Lib.hid (show (body zs).length = V from HR4.out.1)
      have HI2 := Lib.hid (show isRec zs ↔ val ((zs.drop 4).take 4) = (Crc.sumS (zs.take 4 ++ body zs)).toNat by
        rw [Crc.sumS_append]
        exact ⟨fun h => h.2.2.2, fun h => ⟨by rw [HZ.out]; omega, by rw [HV.out]; omega, by rw [HV.out, HZ.out]; omega, h⟩⟩)
      clear HD1
      go_wp2_with fail
      refine HD2.out.mono ?_
      rintro e w1 ⟨rfl, hw1⟩
      obtain rfl := hw1
      go_wp2_with fail
      refine HCS.out.mono ?_
      rintro e w1 ⟨rfl, hw1⟩
      obtain rfl := hw1
      clear r4
      generalize val ((zs.drop 4).take 4) = X at *
      generalize (Crc.sumS (zs.take 4 ++ body zs)).toNat = Y at *
      by_cases c3 : X = Y
      · have c3i : ((X : Int) != (Y : Int)) = false := by rw [c3]; simp
        have HE := Lib.hid c3
        clear c3
        go_wp2
        go_ret2
        exact ⟨fun _ => ⟨by rw [HL.out]; rfl, nq, rfl⟩, fun h => absurd (HI2.out.2 HE.out) h⟩
      · have c3i : ((X : Int) != (Y : Int)) = true := by simp; omega
        go_wp2
        go_ret2
        exact ⟨fun h => absurd (HI2.out.1 h) c3, fun _ => ⟨rfl, nq, rfl⟩⟩
/-- what first tells -/
theorem first_yes (b off n cap : Nat) (zs : List Int) (w : World) (hs : Sl w (some ⟨b, off, none⟩) n cap zs) (hi : isRec zs) :
    Calls Tryz.prog 117 #[.slice (some ⟨b, off, none⟩) n cap] w (Found w b off n cap (body zs)) :=
  (first_long b off n cap zs w hs (by rw [← hs.1.1]; exact hi.1)).mono fun _ _ h => h.1 hi
theorem first_no (A : Option Addr) (n cap : Nat) (zs : List Int) (w : World) (hs : Sl w A n cap zs) (hi : ¬ isRec zs) :
    Calls Tryz.prog 117 #[.slice A n cap] w (Nothing w) := by
  by_cases h : n < 8
  · exact first_short A n cap w h
  · obtain ⟨b, off, rfl⟩ := sl_addr hs (by omega)
    exact (first_long b off n cap zs w hs (by omega)).mono fun _ _ h => h.2 hi
end Go.Proofs.YtgmpdifggaggdaaGreatDoor.Rc
