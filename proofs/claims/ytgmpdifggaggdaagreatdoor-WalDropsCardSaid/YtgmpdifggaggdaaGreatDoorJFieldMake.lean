/-
  Several texts in one: What the functions Number, Int and Text of package field, and the document's own, make for whatever they are called with: the codes of XFieldMath, in memory of the call's own. Conditions: as each theorem states. What the functions Int and Text of package field, and the document's own, make for whatever they are called with: the codes of XFieldMath, in memory of the call's own. Conditions: as each theorem states.
-/
import Derived.Test.YtgmpdifggaggdaaGreatDoorJFieldBase
import Derived.Test.YtgmpdifggaggdaaGreatDoorFieldBits
namespace Go.Proofs.YtgmpdifggaggdaaGreatDoor.Fld
open Go.RowKit

/-- what was answered is a slice of the bytes zs, of the call's own -/
def Made (w : World) (zs : List Int) (e : Ending) (w' : World) : Prop := ∃ v, e = .returned v ∧ Own w w' v zs
def IsSize (n : Nat) (w : World) (e : Ending) (w' : World) : Prop := ∃ r : Nat, e = .returned (.int .i64 (r : Int)) ∧ r ≤ 64 ∧ ((r : Int) + 7) / 8 = ((digs n).length : Int) ∧ w = w'
theorem len64_any (n : Nat) (hn : n < 18446744073709551616) (w : World) : Calls Tryz.prog 115 #[.int .u64 (n : Int)] w (IsSize n w) :=
  (len64_int (n : Int) w (by omega) (by omega)).mono fun e w' ⟨he, hw⟩ => ⟨Lib.bitLen n, by rw [he, Int.toNat_natCast], (size_eq n hn).2, by have := (size_eq n hn).1; omega, hw⟩

theorem wpList_make_bytes {w : World} {ops : Array Oper} {rest : List Oper} {o : Oper} {a : Act} {Q : Exit → Act → World → Prop} (hg : o.guard = none) (l c : Operand) (hop : o.op = Op.makeSlice 45 l c)
    (L : Int) (n : Nat) (hl : a.eval l = .int .i64 L) (hc : a.eval c = .int .i64 L) (hL : L = (n : Int)) (hn : n ≤ 100000)
    (hK : ∀ w', Own w w' (.slice (some ⟨w.heap.size, 0, none⟩) n n) (List.replicate n 0) → wpList Tryz.prog ops Q rest (a.put o.dst (.slice (some ⟨w.heap.size, 0, none⟩) n n)) w') : wpList Tryz.prog ops Q (o :: rest) a w := by
  obtain ⟨i, hi, hz, hsz, hby⟩ := byte_info
  subst hL
  exact wpList_make_row (P := Tryz.prog) w hg l c 45 hop 5 i _ Tryz.underlying45 hi hz hsz rfl .i64 .i64 n hl hc (by rw [hby]; omega) (by omega) (hK _ (Own.zeros w n hn))

/-- the round of Number: the number that is left has i digits, and those behind are laid -/
def NumR (w : World) (g : Nat) (n k : Nat) (v : Value) (i : Value) (wr : World) : Prop :=
  ∃ (m j : Nat) (tail : List Int), v = .int .u64 (m : Int) ∧ i = .int .i64 (j : Int) ∧ m ≤ n ∧ j ≤ k ∧ (digs m).length = j ∧ digs n = digs m ++ tail ∧ Own w wr (.slice (some ⟨g, 0, none⟩) (1 + k) (1 + k)) ((k : Int) :: (List.replicate j 0 ++ tail))
theorem set_mid (c : Int) (tail : List Int) : ∀ (j : Nat), (List.replicate (j + 1) (0 : Int) ++ tail).set j c = List.replicate j 0 ++ (c :: tail)
  | 0 => rfl
  | j + 1 => by
    rw [List.replicate_succ, List.cons_append, List.set_cons_succ, set_mid c tail j]
    rfl

set_option maxHeartbeats 800000 in
theorem number_any (n : Nat) (hn : n < 18446744073709551616) (w : World) : Calls Tryz.prog 103 #[.int .u64 (n : Int)] w (Made w (code n)) := by
  have hk8 := digs_len8 n hn
  have hn1 : (n : Int) ≤ 18446744073709551615 := by omega
  generalize hK : (digs n).length = k at hk8
  have HK := Lib.hid hK
  clear hK
  go_enter Tryz.func103, Tryz.ntmps103
  go_wp2_with fail
  refine (len64_any n hn _).mono ?_
  rintro e w' ⟨r, rfl, hr, hrk, rfl⟩
  rw [HK.out] at hrk
  go_wp2_with (refine wpList_make_bytes rfl _ _ rfl (1 + (k : Int)) (1 + k) rfl rfl (by omega) (by omega) ?_)
  intro w1 hO
  have hc := (hO.cell 0 (by omega)).1
  have hf := (hO.cell 0 (by omega)).2.1
  have HO := Lib.hid (hO.store 0 (k : Int) (by omega) (by omega))
  clear hO
  generalize w.heap.size = g at *
  go_wp2
  clear hc hf hrk hr
  generalize w1.setCell _ _ = w2 at HO ⊢
  go_loopw [0, 5] (fun v i wr => NumR w g n k v i wr) (fun _ i _ => (intOf i).toNat)
  case atStart => exact ⟨n, k, [], rfl, rfl, Nat.le_refl _, Nat.le_refl _, HK.out, by rw [List.append_nil], by rw [List.append_nil]; have := HO.out; rw [Nat.add_comm 1 k, List.replicate_succ, List.set_cons_zero] at this; rw [Nat.add_comm 1 k]; exact this⟩
  case round =>
    obtain ⟨m, j, tail, rfl, rfl, hm, hj, hl, he, hO⟩ := hrel
    have HL := Lib.hid hl
    have HE := Lib.hid he
    clear hl he
    by_cases hlt : 0 < j
    · have hmp : 0 < m := digs_len_pos m (by rw [HL.out]; exact hlt)
      have hc := (hO.cell j (by omega)).1
      have hf := (hO.cell j (by omega)).2.1
      have HO2 := Lib.hid (hO.store j ((m : Int) % 256) (by omega) (by omega))
      have HE2 := Lib.hid (show digs n = digs (m / 256) ++ (((m % 256 : Nat) : Int) :: tail) by rw [HE.out, digs_pos m hmp, List.append_assoc]; rfl)
      have HL2 := Lib.hid (show (digs (m / 256)).length = j - 1 by have := digs_len m hmp; rw [HL.out] at this; omega)
      clear hO HO
      obtain ⟨i, rfl⟩ : ∃ i, j = i + 1 := ⟨j - 1, by omega⟩
      have HO3 := Lib.hid (show Own w _ _ ((k : Int) :: (List.replicate i 0 ++ (((m % 256 : Nat) : Int) :: tail))) by have := HO2.out; rw [List.set_cons_succ, set_mid] at this; exact this)
      clear HO2
      go_wp2
      go_roundw
      case rel => exact ⟨m / 256, i, _, by go_num, by go_num, by omega, by omega, by have := HL2.out; omega, HE2.out, HO3.out⟩
      case measure => simp [intOf]
    · obtain rfl : j = 0 := by omega
      have HC := Lib.hid (show (k : Int) :: ([] ++ tail) = code n by rw [code, HK.out, HE.out, List.eq_nil_of_length_eq_zero HL.out])
      have HO2 := Lib.hid hO
      clear hO HO
      go_wp2
      go_ret
      exact ⟨_, rfl, by rw [← HC.out]; exact HO2.out⟩

/-- the round of the document's Number -/
def RefR (w : World) (n : Nat) (v : Value) (out : Value) (wr : World) : Prop :=
  ∃ (m : Nat) (tail : List Int), v = .int .u64 (m : Int) ∧ m ≤ n ∧ digs n = digs m ++ tail ∧ tail.length ≤ 8 ∧ Own w wr out tail

end Go.Proofs.YtgmpdifggaggdaaGreatDoor.Fld

namespace Go.Proofs.YtgmpdifggaggdaaGreatDoor.Fld
open Go.RowKit

theorem wrap_neg (x : Int) (h0 : -9223372036854775808 ≤ x) (h : x < 0) : IntKind.u64.wrap (-IntKind.u64.wrap x) = ((-x).toNat : Int) := by
  simp only [IntKind.wrap_u64]
  omega

set_option maxHeartbeats 800000 in
theorem text_any (A : Option Addr) (n cap : Nat) (zs : List Int) (w : World) (hr : Rd w A n zs) (hA : A = none → cap = 0) (hn : n ≤ 140737488351232) : Calls Tryz.prog 80 #[.slice A n cap] w (Made w (textC zs)) := by
  have HR := Lib.hid hr
  have HA := Lib.hid hA
  have HL := Lib.hid hr.1
  have HK := Lib.hid (digs_len8 n (by omega))
  clear hr hA
  have HN := Lib.hid (number_any n (by omega) w)
  go_enter Tryz.func80, Tryz.ntmps80
  go_wp2_with fail
  refine HN.out.mono ?_
  rintro e w' ⟨v, rfl, hO⟩
  have HO := Lib.hid hO
  have HR1 := Lib.hid (HR.out.below hO.1)
  clear hO
  go_wp2_with (refine wpList_append_rd rfl _ _ rfl w _ (code n) rfl HO.out A n cap zs rfl HA.out HR1.out (by have := HK.out; rw [code_len]; omega) ?_)
  intro v1 w1 hO1 _ _
  have HO2 := Lib.hid hO1
  clear hO1
  go_wp2
  go_ret
  exact ⟨_, rfl, by rw [textC, HL.out]; exact HO2.out⟩
end Go.Proofs.YtgmpdifggaggdaaGreatDoor.Fld
