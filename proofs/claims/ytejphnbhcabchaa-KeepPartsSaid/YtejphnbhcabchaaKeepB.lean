/-
  Layer 7: hard states, written: numbers, validIndex, validHard, encodeHard, save and SaveHard. Conditions: the disk lies in memory as it was made.
-/
import Derived.Test.YtejphnbhcabchaaKeepA
import Derived.Test.YtejphnbhcabchaaFieldMore
import Derived.Test.YtejphnbhcabchaaRecBase
import Derived.Test.YtejphnbhcabchaaDiskCr
namespace Go.Proofs.Ytejphnbhcabchaa.Kp
open Go.RowKit Go.Proofs.Ytejphnbhcabchaa.Dk Go.Proofs.Ytejphnbhcabchaa.Fld
set_option linter.unusedVariables false

def enc (l : List Nat) : List Int := l.flatMap code
theorem enc_len (l : List Nat) (h : ∀ n ∈ l, n < 18446744073709551616) : (enc l).length ≤ 9 * l.length := by
  induction l with
  | nil => simp [enc]
  | cons n l ih =>
    have h1 := digs_len8 n (h n (by simp))
    have h2 := ih (fun m hm => h m (by simp [hm]))
    unfold enc at *
    rw [List.flatMap_cons, List.length_append, code_len, List.length_cons]
    omega
theorem enc_take (l : List Nat) (k : Nat) (h : k < l.length) : enc (l.take (k + 1)) = enc (l.take k) ++ code (l.getD k 0) := by
  rw [List.take_add_one, List.getElem?_eq_getElem h, enc, List.flatMap_append, List.getD_eq_getElem?_getD, List.getElem?_eq_getElem h]
  simp [enc]
theorem alloc_below (w : World) (o : Obj) : Below w.heap.size w (w.alloc o) := (Below.refl _ _).alloc (Nat.le_refl _) o
def ints (l : List Nat) : List Int := l.map fun (n : Nat) => (n : Int)
theorem ints_at (l : List Nat) (k : Nat) (h : k < l.length) : (ints l).getD k 0 = ((l.getD k 0 : Nat) : Int) := by simp [ints, h]
set_option maxRecDepth 100000 in
set_option maxHeartbeats 3200000 in
theorem numbers_any (A : Option Addr) (n cap : Nat) (l : List Nat) (w : World) (hr : Dk.RdI w A n (ints l)) (hl : l.length = n) (hn : n ≤ 100) (hs : ∀ m ∈ l, m ≤ 9223372036854775807) :
    Calls Try.prog 23 #[.slice A n cap] w (Made w (enc l)) := by
  have HR := Lib.hid hr
  have HL := Lib.hid hl
  have HS := Lib.hid hs
  clear hr hl hs
  go_enter Try.func23, Try.ntmps23
  go_wp2
  go_loopw [3, 8] (fun v i wr => ∃ k : Nat, k ≤ n ∧ i = .int .i64 k ∧ Own w wr v (enc (l.take k))) (fun _ i _ => n - (intOf i).toNat)
  case atStart => exact ⟨0, Nat.zero_le _, rfl, Own.nil w w (Below.refl _ _)⟩
  case round =>
    obtain ⟨k, hk, rfl, hO⟩ := hrel
    have HO := Lib.hid hO
    clear hO
    by_cases hlt : k < n
    · obtain ⟨b, off, rfl, hc1⟩ := HR.out.2.2 (by omega)
      have hc := hc1 k hlt
      rw [ints_at l k (by rw [HL.out]; exact hlt)] at hc
      have hc := (HO.out.1.cell (lt_of_cell hc)).trans hc
      clear hc1
      have hm : l.getD k 0 ≤ 9223372036854775807 := HS.out _ (by rw [List.getD_eq_getElem?_getD, List.getElem?_eq_getElem (by rw [HL.out]; exact hlt)]; simp)
      have HE := Lib.hid (enc_take l k (by rw [HL.out]; exact hlt))
      have HL1 := Lib.hid (show (enc (l.take k)).length ≤ 900 from by
        have := enc_len (l.take k) (fun m hm => by have := HS.out m (List.mem_of_mem_take hm); omega)
        rw [List.length_take] at this
        omega)
      generalize l.getD k 0 = m at *
      have HN := Lib.hid (number_any m (by omega) wr)
      have HM := Lib.hid (digs_len8 m (by omega))
      go_wp2_with fail
      refine HN.out.mono ?_
      rintro e w1 ⟨v1, rfl, hO1⟩
      obtain ⟨A1, c1, rfl, hs1, _⟩ := hO1.sl _ rfl
      have HO1 := Lib.hid (HO.out.below hO1.1)
      have HS1 := Lib.hid hs1
      clear hs1 hO1
      go_wp2_with (at_builtin; refine wpList_append_rd rfl _ _ rfl w _ (enc (l.take k)) rfl HO1.out A1 _ c1 (code m) rfl HS1.out.2.2.2.1 HS1.out.1 (by have := HM.out; have := HL1.out; rw [code_len]; omega) ?_; intro v2 w2 hO2 _ _; have HO2 := Lib.hid hO2; clear hO2)
      go_roundw
      case rel => exact ⟨k + 1, by omega, by go_num, by rw [HE.out]; exact HO2.out⟩
      case measure => simp [intOf]; omega
    · obtain rfl : k = n := by omega
      go_wp2
      go_ret
      exact ⟨_, rfl, by have := HO.out; rwa [← HL.out, List.take_length] at this⟩
theorem rdI_built (w : World) (l : List Nat) (hl : l.length ≤ 100) (t : TypeId) : Dk.RdI (w.alloc (.cells (l.map fun (n : Nat) => Value.int .i64 (n : Int)).toArray t)) (some ⟨w.heap.size, 0, none⟩) l.length (ints l) := by
  refine ⟨by simp [ints], by unfold maxLen; omega, fun _ => ⟨_, _, rfl, fun i hi => ?_⟩⟩
  rw [World.cell?_alloc_mark, Nat.zero_add, ints_at l i hi]
  simp [hi]
def idxOk (a : Int) : Bool := decide (0 ≤ a) && decide (a ≤ 1099511627776)
set_option maxRecDepth 100000 in
theorem validIndex_any (a : Int) (w : World) : Calls Try.prog 37 #[.int .i64 a] w fun e w' => e = .returned (.bool (idxOk a)) ∧ w = w' := by
  unfold idxOk
  by_cases h1 : 0 ≤ a
  · by_cases h2 : a ≤ 1099511627776
    all_goals
      go_enter Try.func37, Try.ntmps37
      go_wp2
      go_ret
      exact ⟨by simp [h1, h2], rfl⟩
  · go_enter Try.func37, Try.ntmps37
    go_wp2
    go_ret
    exact ⟨by simp; omega, rfl⟩
theorem hardOk_eq (a b : Int) : hardOk a b = (idxOk a && (decide (0 ≤ b) && decide (b ≤ 15))) := rfl
def hardV (a b : Int) : Value := .agg #[.int .i64 a, .int .i64 b]
set_option maxRecDepth 100000 in
theorem validHard_any (a b : Int) (w : World) : Calls Try.prog 22 #[hardV a b] w fun e w' => e = .returned (.bool (hardOk a b)) ∧ Below w.heap.size w w' := by
  have HB := Lib.hid (alloc_below w (.cells #[.int .i64 a, .int .i64 b] 46))
  have HI := fun W => Lib.hid (validIndex_any a W)
  rw [hardOk_eq]
  unfold hardV
  generalize idxOk a = B at *
  cases B with
  | false =>
    go_enter Try.func22, Try.ntmps22
    go_wp2_with (go_at_call 37; refine (HI _).out.mono ?_; rintro e w' ⟨rfl, rfl⟩)
    go_ret
    exact ⟨rfl, HB.out⟩
  | true =>
    by_cases h1 : 0 ≤ b
    · by_cases h2 : b ≤ 15
      all_goals
        go_enter Try.func22, Try.ntmps22
        go_wp2_with (go_at_call 37; refine (HI _).out.mono ?_; rintro e w' ⟨rfl, rfl⟩)
        go_ret
        exact ⟨by simp [h1, h2], HB.out⟩
    · go_enter Try.func22, Try.ntmps22
      go_wp2_with (go_at_call 37; refine (HI _).out.mono ?_; rintro e w' ⟨rfl, rfl⟩)
      go_ret
      exact ⟨by simp; omega, HB.out⟩
/-- what an encoding function answers -/
def Encd (w : World) (ok : Bool) (zs : List Int) (e : Ending) (w' : World) : Prop := if ok then ∃ v, e = .returned (.tuple #[v, .int .i64 0]) ∧ Own w w' v zs else e = .returned (.tuple #[.slice none 0 0, .int .i64 1]) ∧ Below w.heap.size w w'
theorem hard_nat {a b : Int} (h : hardOk a b = true) : ∃ m n : Nat, a = (m : Int) ∧ b = (n : Int) ∧ m ≤ 1099511627776 ∧ n ≤ 15 := by
  unfold hardOk at h
  simp only [Bool.and_eq_true, decide_eq_true_eq] at h
  exact ⟨a.toNat, b.toNat, by omega, by omega, by omega, by omega⟩
theorem hardC_enc (m n : Nat) : enc [m, n] = hardC m n := by simp [enc, hardC]
set_option maxRecDepth 100000 in
set_option maxHeartbeats 800000 in
theorem encodeHard_any (a b : Int) (w : World) : Calls Try.prog 17 #[hardV a b] w (Encd w (hardOk a b) (hardC a.toNat b.toNat)) := by
  have HB := Lib.hid (alloc_below w (.cells #[.int .i64 a, .int .i64 b] 46))
  have HV := Lib.hid (validHard_any a b (w.alloc (.cells #[.int .i64 a, .int .i64 b] 46)))
  cases hok : hardOk a b with
  | false =>
    rw [hok] at HV
    unfold hardV at HV ⊢
    go_enter Try.func17, Try.ntmps17
    go_wp2_with (go_at_call 22; refine HV.out.mono ?_; rintro e w' ⟨rfl, hb1⟩; have HB1 := Lib.hid hb1; clear hb1)
    go_ret2
    exact ⟨rfl, HB.out.trans (HB1.out.mono HB.out.size)⟩
  | true =>
    rw [hok] at HV
    unfold hardV at HV ⊢
    obtain ⟨m, n, rfl, rfl, hm, hn⟩ := hard_nat hok
    rw [Int.toNat_natCast, Int.toNat_natCast]
    clear hok
    have c0 : (w.alloc (.cells #[.int .i64 (m : Int), .int .i64 (n : Int)] 46)).cell? ⟨w.heap.size, 0, none⟩ = some (.int .i64 (m : Int)) := by rw [World.cell?_alloc_mark]; rfl
    have c1 : (w.alloc (.cells #[.int .i64 (m : Int), .int .i64 (n : Int)] 46)).cell? ⟨w.heap.size, 1, none⟩ = some (.int .i64 (n : Int)) := by rw [World.cell?_alloc_mark]; rfl
    go_enter Try.func17, Try.ntmps17
    go_wp2_with fail
    refine HV.out.mono ?_
    rintro e w1 ⟨rfl, hb1⟩
    have d0 := (hb1.cell (lt_of_cell c0)).trans c0
    have d1 := (hb1.cell (lt_of_cell c1)).trans c1
    have HB1 := Lib.hid (HB.out.trans (hb1.mono HB.out.size))
    clear hb1 c0 c1
    have HR := Lib.hid (rdI_built w1 [m, n] (by simp) 3)
    have HN := Lib.hid (numbers_any _ 2 2 [m, n] _ HR.out rfl (by omega) (by simp; omega))
    have HB2 := Lib.hid (HB1.out.trans ((alloc_below w1 (.cells #[.int .i64 (m : Int), .int .i64 (n : Int)] 3)).mono HB1.out.size))
    go_wp2_with fail
    refine HN.out.mono ?_
    rintro e w2 ⟨v2, rfl, hO2⟩
    have HO2 := Lib.hid (hO2.since HB2.out)
    clear hO2
    rw [hardC_enc] at HO2
    go_wp2
    go_ret2
    exact ⟨_, rfl, HO2.out⟩
end Go.Proofs.Ytejphnbhcabchaa.Kp
