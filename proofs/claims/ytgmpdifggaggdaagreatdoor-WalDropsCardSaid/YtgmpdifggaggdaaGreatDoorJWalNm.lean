/-
  Several texts in one: Layer 6: the names of segments, in the program: nameOf, segment.name, numberOf. Conditions: the library's table of powers of ten and its error 'invalid syntax' are laid (Base); numbers have at most eight digits. Layer 6: what the listed variables hold, for every row of this seat. No condition but the row's own.
-/
import Derived.Test.YtgmpdifggaggdaaGreatDoorJWalName
import Derived.Test.YtgmpdifggaggdaaGreatDoorShelf
import Derived.Test.YtgmpdifggaggdaaGreatDoorJFieldBase
import Derived.Laws.Concat
import Derived.Lib.AtoiErrMem
import Derived.Test.YtgmpdifggaggdaaGreatDoorRows
import Derived.ProofKit
import Derived.LaidMore
import Derived.MakeChecks
import Derived.Lib.LaidTab
import Derived.Stop.LaidErr
namespace Go.Proofs.YtgmpdifggaggdaaGreatDoor.Wl
open Go.RowKit Go.Proofs.YtgmpdifggaggdaaGreatDoor.Fld Go.Shelf

/-- what the library's variables hold -/
def Base (w : World) : Prop := Lib.TabIs Tryz.prog w "internal/strconv.uint64pow10" .u64 Lib.pow10Tab ∧ ∃ te pe, w.cell? ⟨0, 0, none⟩ = some (.iface te pe)
theorem Base.of_blocks {w w' : World} (h : Base w) (h0 : w'.heap[0]? = w.heap[0]?) (h2 : w'.heap[2]? = w.heap[2]?) : Base w' := by
  obtain ⟨ht, te, pe, hc⟩ := h
  refine ⟨?_, te, pe, (World.cell?_of_block (w := w) h0).trans hc⟩
  have hg : Tryz.prog.globalNamed "internal/strconv.uint64pow10" = some 2 := by kernel_rfl
  unfold Lib.TabIs World.var? at ht ⊢
  rw [hg] at ht ⊢
  simp only [Option.bind_some] at ht ⊢
  rw [h2]
  exact ht
theorem Base.lt {w : World} (h : Base w) : 0 < w.heap.size ∧ 2 < w.heap.size := by
  obtain ⟨ht, te, pe, hc⟩ := h
  refine ⟨lt_of_cell hc, ?_⟩
  have hg : Tryz.prog.globalNamed "internal/strconv.uint64pow10" = some 2 := by kernel_rfl
  unfold Lib.TabIs World.var? at ht
  rw [hg] at ht
  simp only [Option.bind_some] at ht
  rcases Nat.lt_or_ge 2 w.heap.size with h' | h'
  · exact h'
  · rw [Array.getElem?_eq_none h'] at ht; cases ht
theorem Base.below {w w' : World} (h : Base w) (hb : Below w.heap.size w w') : Base w' := h.of_blocks (hb.block _ h.lt.1) (hb.block _ h.lt.2)

def str (x : List UInt8) : ByteArray := ⟨x.toArray⟩
theorem str_size (x : List UInt8) : (str x).size = x.length := by simp [str, ByteArray.size]
theorem str_data (x : List UInt8) : (str x).data.toList = x := by simp [str]
theorem str_add (x y : List UInt8) : str x ++ str y = str (x ++ y) := ByteArray.mk_append_mk ..
theorem rep_zero (k : Nat) : Lib.repeatL [48] k = List.replicate k 48 := by
  induction k with
  | zero => rfl
  | succ k ih => rw [Lib.repeatL, ih, List.replicate_succ]; rfl
theorem grow_below (w : World) (k : Nat) (os : Array Obj) : Below w.heap.size w (Go.Sort.grow (w.drewN k) os) := by
  refine ⟨rfl, rfl, rfl, ?_, fun i hi => ?_⟩
  · show w.heap.size ≤ (w.heap ++ os).size
    rw [Array.size_append]
    omega
  · show (w.heap ++ os)[i]? = w.heap[i]?
    rw [Array.getElem?_append_left hi]
theorem wrap_8 (k : Nat) (h : k ≤ 8) : wrap64 (8 - (k : Int)) = ((8 - k : Nat) : Int) := by
  unfold wrap64
  omega
set_option maxRecDepth 100000 in
set_option maxHeartbeats 1600000 in
theorem nameOf_any (n : Nat) (hn : n ≤ 99999999) (w : World) (hB : Base w) : Calls Tryz.prog 48 #[.int .i64 (n : Int)] w fun e w' => e = .returned (.string (str (segN n))) ∧ Below w.heap.size w w' := by
  obtain ⟨hl, hp⟩ := padded 8 n (by simpa using by omega) (by omega)
  have HI := Lib.hid (Tryz.strconv_Itoa (n : Int) (by omega) (by omega) w hB.1)
  rw [show Lib.itoa (n : Int) = Lib.decDigits n by rw [Lib.itoa, if_neg (by omega), Int.toNat_natCast]] at HI
  generalize Lib.decDigits n = x at *
  obtain ⟨k, hk⟩ : ∃ k, x.length = k := ⟨_, rfl⟩
  have HK := Lib.hid hk
  have HP := Lib.hid hp
  rw [hk] at hl hp HP
  clear hp hk hB
  go_enter Tryz.func48, Tryz.ntmps48
  go_wp2_with fail
  refine HI.out.mono ?_
  rintro e w1 ⟨rfl, q, os, rfl⟩
  have HB1 := Lib.hid (grow_below w q os)
  generalize Go.Sort.grow (w.drewN q) os = w1 at *
  have e1 := wrap_8 k hl
  rw [← HK.out] at e1
  go_wp2_with fail
  have HR := Tryz.strings_Repeat ⟨#[48]⟩ (8 - x.length) w1 (by omega) (by rw [HK.out]; show 1 * _ ≤ _; omega)
  rw [show (⟨#[48]⟩ : ByteArray).data.toList = [48] from rfl, rep_zero] at HR
  refine HR.mono ?_
  rintro e w2 ⟨rfl, hb2⟩
  have HB2 := Lib.hid hb2
  clear hb2 HR
  have HX := Lib.hid (show pre ++ (List.replicate (8 - x.length) 48 ++ x) = segN n by rw [segN, ← HP.out, HK.out])
  have hlr : (List.replicate (8 - x.length) (48 : UInt8)).length ≤ 8 := by simp
  generalize List.replicate (8 - x.length) (48 : UInt8) = r at *
  have p1 : ∀ W : World, (Op.stringOp .add ⟨#[119, 97, 108, 45]⟩ ⟨r.toArray⟩).run Tryz.prog W = .ok (.string ⟨(pre ++ r).toArray⟩) W := fun W => run_string_add_lists W pre r (by decide) (by omega)
  have p2 : ∀ W : World, (Op.stringOp .add ⟨(pre ++ r).toArray⟩ ⟨x.toArray⟩).run Tryz.prog W = .ok (.string ⟨((pre ++ r) ++ x).toArray⟩) W := fun W => run_string_add_lists W (pre ++ r) x (by rw [List.length_append]; show ((4 + r.length : Nat) : Int) ≤ _; omega) (by have := HK.out; omega)
  rw [List.append_assoc, HX.out] at p2
  generalize pre ++ r = y at *
  go_wp2
  go_ret
  exact ⟨rfl, HB1.out.trans (HB2.out.mono HB1.out.size)⟩
theorem alloc_below (w : World) (o : Obj) : Below w.heap.size w (w.alloc o) := (Below.refl _ _).alloc (Nat.le_refl _) o
set_option maxRecDepth 100000 in
theorem segname_any (n : Nat) (a b : Value) (hn : n ≤ 99999999) (w : World) (hB : Base w) : Calls Tryz.prog 29 #[.agg #[.int .i64 (n : Int), a, b]] w fun e w' => e = .returned (.string (str (segN n))) ∧ Below w.heap.size w w' := by
  have HB1 := Lib.hid (alloc_below w (.cells #[.int .i64 (n : Int), a, b] 69))
  have HN := Lib.hid (nameOf_any n hn _ (hB.below HB1.out))
  clear hB
  go_enter Tryz.func29, Tryz.ntmps29
  go_wp2_with fail
  refine HN.out.mono ?_
  rintro e w' ⟨rfl, hb⟩
  have HB := Lib.hid hb
  clear hb
  go_wp2
  go_ret
  exact ⟨rfl, HB1.out.trans (HB.out.mono HB1.out.size)⟩

theorem parse_m : ∀ (l : List UInt8) (acc : Nat), acc * 10 ^ l.length + 10 ^ l.length ≤ 100000000 →
    Lib.parseUintM (2 ^ 64 - 1) acc l = if l.all isDig then .ok (l.foldl (fun a c => a * 10 + (c.toNat - 48)) acc) else Lib.NumEnd.syntax
  | [], acc, _ => rfl
  | c :: r, acc, h => by
    have hp : 0 < 10 ^ r.length := Nat.pow_pos (by omega)
    have h2 : (acc * 10) * 10 ^ r.length + 10 * 10 ^ r.length ≤ 100000000 := by
      have : 10 ^ (c :: r).length = 10 * 10 ^ r.length := by rw [List.length_cons, Nat.pow_succ, Nat.mul_comm]
      rw [this] at h
      rw [Nat.mul_assoc]
      exact h
    have ha : acc * 10 + 10 ≤ 100000000 := by
      have : (acc * 10 + 10) * 1 ≤ (acc * 10 + 10) * 10 ^ r.length := Nat.mul_le_mul_left _ hp
      have h5 : (acc * 10 + 10) * 10 ^ r.length = acc * 10 * 10 ^ r.length + 10 * 10 ^ r.length := Nat.add_mul _ _ _
      omega
    unfold Lib.parseUintM
    by_cases hd : 48 ≤ c.toNat ∧ c.toNat ≤ 57
    · rw [if_pos hd, if_neg (by omega), if_neg (by omega), parse_m r _ ?_]
      · have : isDig c = true := by unfold isDig; simp; exact hd
        rw [List.all_cons, this, Bool.true_and, List.foldl_cons]
      · have h3 : (acc * 10 + (c.toNat - 48)) * 10 ^ r.length ≤ (acc * 10 + 9) * 10 ^ r.length := Nat.mul_le_mul_right _ (by omega)
        have h4 : (acc * 10 + 9) * 10 ^ r.length = acc * 10 * 10 ^ r.length + 9 * 10 ^ r.length := Nat.add_mul _ _ _
        omega
    · rw [if_neg hd]
      have : isDig c = false := by
        unfold isDig
        rw [Bool.eq_false_iff]
        simp only [ne_eq, Bool.and_eq_true, decide_eq_true_eq]
        exact hd
      rw [List.all_cons, this]
      rfl
theorem parse_8 (l : List UInt8) (h : l.length = 8) : Lib.parseUintB 64 l = if l.all isDig then .ok (dval l) else Lib.NumEnd.syntax := by
  unfold Lib.parseUintB
  rw [if_neg (by rintro rfl; simp at h), parse_m l 0 (by rw [h]; decide)]
  rfl
theorem pre_of {x : Nm} (h : Lib.hasPrefix x pre = true) : x = pre ++ x.drop 4 ∧ Lib.trimPrefix x pre = x.drop 4 := by
  refine ⟨?_, by rw [Lib.trimPrefix, if_pos h]; rfl⟩
  unfold Lib.hasPrefix at h
  obtain ⟨y, rfl⟩ := List.isPrefixOf_iff_prefix.1 h
  rfl
theorem shape_of {x : Nm} (h : Lib.hasPrefix x pre = true) (hl : (x.drop 4).length = 8) : shape x = (x.drop 4).all isDig := by
  obtain ⟨h1, _⟩ := pre_of h
  have h2 : x.take 4 = pre := by rw [h1]; simp [pre]
  have h3 : x.length = 12 := by
    rw [List.length_drop] at hl
    omega
  unfold shape
  rw [h2, h3]
  simp
theorem shape_no {x : Nm} (h : Lib.hasPrefix x pre = false ∨ (x.drop 4).length ≠ 8) : shape x = false := by
  unfold shape
  rcases h with h | h
  · have : (x.take 4 == pre) = false := by
      rw [beq_eq_false_iff_ne]
      intro he
      have : Lib.hasPrefix x pre = true := by
        unfold Lib.hasPrefix
        rw [List.isPrefixOf_iff_prefix]
        exact ⟨x.drop 4, by rw [← he, List.take_append_drop]⟩
      rw [this] at h
      cases h
    rw [this]
    simp
  · rw [List.length_drop] at h
    have : decide (x.length = 12) = false := decide_eq_false (by omega)
    rw [this]
    rfl
def NumIs (x : Nm) (w : World) (e : Ending) (w' : World) : Prop := ∃ v : Int, e = .returned (.tuple #[.int .i64 v, .bool (decide (0 < numOf x))]) ∧ (0 < numOf x → v = (numOf x : Int)) ∧ Below w.heap.size w w'
theorem numIs_no {x : Nm} {w w' : World} (h : shape x = false) (v : Int) (hb : Below w.heap.size w w') : NumIs x w (.returned (.tuple #[.int .i64 v, .bool false])) w' := by
  have : numOf x = 0 := by unfold numOf; rw [h]; rfl
  exact ⟨v, by rw [this]; rfl, by rw [this]; omega, hb⟩
set_option maxRecDepth 100000 in
set_option maxHeartbeats 1600000 in
theorem numberOf_any (s : ByteArray) (w : World) (hB : Base w) : Calls Tryz.prog 71 #[.string s] w (NumIs s.data.toList w) := by
  have HC := Lib.hid (Tryz.strings_CutPrefix s ⟨#[119, 97, 108, 45]⟩ w)
  rw [show (⟨#[119, 97, 108, 45]⟩ : ByteArray).data.toList = pre from rfl] at HC
  have HBB := Lib.hid hB
  clear hB
  generalize s.data.toList = x at *
  cases hp : Lib.hasPrefix x pre with
  | false =>
    rw [hp] at HC
    have HS := Lib.hid (shape_no (.inl hp))
    generalize Lib.trimPrefix x pre = y at *
    go_enter Tryz.func71, Tryz.ntmps71
    go_wp2_with (go_at_call 92; refine HC.out.mono ?_; rintro e w' ⟨rfl, rfl⟩)
    go_ret2
    exact numIs_no HS.out 0 (Below.refl _ _)
  | true =>
    obtain ⟨_, ht⟩ := pre_of hp
    rw [hp, ht] at HC
    by_cases hl : (x.drop 4).length = 8
    · have HS := Lib.hid (shape_of hp hl)
      have hpar := parse_8 _ hl
      have HNum := Lib.hid (show numOf x = if shape x then dval (x.drop 4) else 0 from rfl)
      have hlt := fun h => (dval_lt 8 (x.drop 4) hl h).1
      clear hp ht
      generalize x.drop 4 = y at *
      cases hd : y.all isDig with
      | false =>
        rw [hd] at HS hpar
        obtain ⟨_, te, pe, hc⟩ := HBB.out
        have HPU := Lib.hid (Tryz.strconv_ParseUint_10_at64_syntax ⟨y.toArray⟩ (by show y.toArray.size ≤ _; simp; omega) (by simpa using hpar) (.iface te pe) w hc (.inr ⟨_, _, rfl⟩))
        clear hc
        have j1 : decide (((⟨y.toArray⟩ : ByteArray).size : Int) = 8) = true := by simp [ByteArray.size]; omega
        go_enter Tryz.func71, Tryz.ntmps71
        go_wp2_with (first | (go_at_call 92; refine HC.out.mono ?_; rintro e w' ⟨rfl, rfl⟩) | (go_at_call 93; refine HPU.out.mono ?_; rintro e w' ⟨N, rfl, _, _, hb⟩; have HB1 := Lib.hid hb; clear hb))
        go_ret2
        exact numIs_no HS.out _ HB1.out
      | true =>
        rw [hd] at HS hpar
        have hlt := hlt hd
        rw [HS.out] at HNum
        have HN2 := Lib.hid HNum.out
        clear HNum
        rw [if_pos rfl] at HN2 hpar
        have HPU := Lib.hid (Tryz.strconv_ParseUint_10_at64_ok ⟨y.toArray⟩ (by show y.toArray.size ≤ _; simp; omega) (dval y) (by simpa using hpar) w)
        have j1 : decide (((⟨y.toArray⟩ : ByteArray).size : Int) = 8) = true := by simp [ByteArray.size]; omega
        generalize dval y = d at *
        have hd8 : d < 100000000 := by simpa using hlt
        go_enter Tryz.func71, Tryz.ntmps71
        go_wp2_with (first | (go_at_call 92; refine HC.out.mono ?_; rintro e w' ⟨rfl, rfl⟩) | (go_at_call 93; refine HPU.out.mono ?_; rintro e w' ⟨rfl, hb⟩; have HB1 := Lib.hid hb; clear hb))
        go_ret2
        refine ⟨(d : Int), by rw [HN2.out]; rfl, fun _ => by rw [HN2.out], ?_⟩
        rcases HB1.out with rfl | rfl
        · exact Below.refl _ _
        · exact Lib.bytesWorld_below _ _ _
    · have HS := Lib.hid (shape_no (x := x) (.inr hl))
      clear hp ht
      generalize x.drop 4 = y at *
      have j1 : decide (((⟨y.toArray⟩ : ByteArray).size : Int) = 8) = false := by simp [ByteArray.size]; omega
      go_enter Tryz.func71, Tryz.ntmps71
      go_wp2_with (go_at_call 92; refine HC.out.mono ?_; rintro e w' ⟨rfl, rfl⟩)
      go_ret2
      exact numIs_no HS.out 0 (Below.refl _ _)
end Go.Proofs.YtgmpdifggaggdaaGreatDoor.Wl

namespace Go.Proofs.YtgmpdifggaggdaaGreatDoor.Wl
open Go.RowKit Go.ChangeShapes Go.WideShapes
set_option linter.unusedVariables false

def laidL : List (String × DataW Unit) := [("math/bits.deBruijn32tab", Rows.laid_math_bits_deBruijn32tab), ("math/bits.deBruijn64tab", Rows.laid_math_bits_deBruijn64tab), ("internal/strconv.uint64pow10", Rows.laid_internal_strconv_uint64pow10), ("strconv.ErrRange", Rows.laid_strconv_ErrRange), ("strconv.ErrSyntax", Rows.laid_strconv_ErrSyntax)]
theorem own : ownKnob Tryz.prog.godebug = none := by kernel_rfl
theorem laidOut : laidOutB Tryz.prog = true := by kernel_rfl
set_option maxRecDepth 100000 in
theorem door_met (os : Os) (args : Array Value) : laidMetH Tryz.prog laidL ((World.doorLaid Tryz.prog 62 os).forCall (fun _ _ => 0) ⟨#[], args, []⟩).memory :=
  laidMetH_of_parts3 (fuel := 8) (laidMet_of_run' 8 (by kernel_rfl) (by kernel_rfl)) (by kernel_rfl) (by kernel_rfl)
theorem pow_data : (Rows.laid_internal_strconv_uint64pow10 : DataW Unit) = Lib.tabData .u64 Lib.pow10Tab := by kernel_rfl
theorem gPow : Tryz.prog.globalNamed "internal/strconv.uint64pow10" = some 2 := by kernel_rfl
theorem gSyn : Tryz.prog.globalNamed "strconv.ErrSyntax" = some 0 := by kernel_rfl
theorem base_of_laid {W : World} (h : laidMetH Tryz.prog laidL W) : Base W := by
  rw [MakeChecks.laidMetH_plain _ _ _ (by kernel_rfl)] at h
  have h2 := h.tail.tail
  have h3 := h2.tail.tail
  refine ⟨?_, ?_⟩
  · rw [pow_data] at h2
    exact Lib.tabIs_of_head (t := 213) (e := 133) (n := 20) gPow (by kernel_rfl) (by kernel_rfl) (by kernel_rfl) (by kernel_rfl) (by kernel_rfl) h2
  · obtain ⟨ps, ⟨g, t, cs, fuel, p, q, hg, ht, hv, hd, _⟩, _⟩ := h3
    obtain rfl := Option.some.inj (gSyn.symm.trans hg)
    obtain rfl := Option.some.inj ((show (Tryz.prog.globals[0]?).map (·.type) = some 135 by kernel_rfl).symm.trans ht)
    obtain ⟨_, u, v, hc, _, _⟩ := iface_of_trod Tryz.underlying135 hd
    have h4 := World.var?_cell hg hv 0
    rw [Array.eq_one_of_toList hc] at h4
    exact ⟨u, v, by simpa using h4⟩
end Go.Proofs.YtgmpdifggaggdaaGreatDoor.Wl
