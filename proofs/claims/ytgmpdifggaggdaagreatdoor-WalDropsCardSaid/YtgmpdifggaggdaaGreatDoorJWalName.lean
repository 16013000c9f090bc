/-
  Several texts in one: The plain mathematics of layer 6, first part: names of segments and their numbers. No condition but those that each theorem states. The plain mathematics of layer 6, second part: what a record's content says, what it does to a log, and the recoverable content of segments. No condition but those that each theorem states. The plain mathematics of layer 6: how large a content becomes that is read from so many bytes. No condition but those that each theorem states.
-/
import Derived.Test.YtgmpdifggaggdaaGreatDoorJDiskMath
import Derived.Lib.ItoaNum
import Derived.Lib.ParseIntB
import Derived.Lib.Repeat
import Derived.Lib.Strings
import Derived.Test.YtgmpdifggaggdaaGreatDoorRecMath
namespace Go.Proofs.YtgmpdifggaggdaaGreatDoor.Wl
abbrev Nm := Dk.Nm

/-! ### digits -/
def dg (n : Nat) : UInt8 := UInt8.ofNat (48 + n % 10)
def isDig (c : UInt8) : Bool := decide (48 ≤ c.toNat) && decide (c.toNat ≤ 57)
def dval (l : List UInt8) : Nat := l.foldl (fun a c => a * 10 + (c.toNat - 48)) 0
/-- so many digits of a number -/
def dk : Nat → Nat → List UInt8
  | 0, _ => []
  | k + 1, n => dk k (n / 10) ++ [dg n]
theorem dk_len : ∀ k n, (dk k n).length = k
  | 0, _ => rfl
  | k + 1, n => by rw [dk, List.length_append, dk_len k]; rfl
theorem dg_nat (n : Nat) : (dg n).toNat = 48 + n % 10 := by
  unfold dg
  rw [UInt8.toNat_ofNat']
  omega
theorem dg_dig (n : Nat) : isDig (dg n) = true := by
  unfold isDig
  rw [dg_nat]
  simp
  omega
theorem dk_dig : ∀ k n, (dk k n).all isDig = true
  | 0, _ => rfl
  | k + 1, n => by rw [dk, List.all_append, dk_dig k]; simp [dg_dig]
theorem dval_snoc (l : List UInt8) (c : UInt8) : dval (l ++ [c]) = dval l * 10 + (c.toNat - 48) := by simp [dval]
theorem dval_dk : ∀ k n, n < 10 ^ k → dval (dk k n) = n
  | 0, n, h => by simp at h; subst h; rfl
  | k + 1, n, h => by
    rw [dk, dval_snoc, dval_dk k (n / 10) (by rw [Nat.pow_succ] at h; omega), dg_nat]
    omega
theorem dval_lt : ∀ (k : Nat) (l : List UInt8), l.length = k → l.all isDig = true → dval l < 10 ^ k ∧ dk k (dval l) = l
  | 0, l, h, _ => by
    obtain rfl := List.eq_nil_of_length_eq_zero h
    exact ⟨by simp [dval], rfl⟩
  | k + 1, l, h, hd => by
    obtain ⟨x, c, rfl⟩ : ∃ x c, l = x ++ [c] := ⟨l.dropLast, l.getLast (by rintro rfl; simp at h), (List.dropLast_concat_getLast _).symm⟩
    rw [List.all_append, Bool.and_eq_true] at hd
    obtain ⟨h1, h2⟩ := dval_lt k x (by simpa using h) hd.1
    have h3 : isDig c = true := by simpa using hd.2
    unfold isDig at h3
    simp only [Bool.and_eq_true, decide_eq_true_eq] at h3
    rw [dval_snoc, dk]
    refine ⟨by rw [Nat.pow_succ]; omega, ?_⟩
    rw [show (dval x * 10 + (c.toNat - 48)) / 10 = dval x by omega, h2]
    congr 2
    apply UInt8.toNat_inj.1
    rw [dg_nat]
    omega
theorem dk_split (j : Nat) : ∀ k n, dk (k + j) n = dk k (n / 10 ^ j) ++ dk j n := by
  induction j with
  | zero => intro k n; simp [dk]
  | succ j ih =>
    intro k n
    rw [show k + (j + 1) = (k + j) + 1 by omega, dk, ih, dk, List.append_assoc]
    congr 2
    rw [Nat.div_div_eq_div_mul, Nat.pow_succ, Nat.mul_comm]
/-- noughts ahead of a numeral -/
theorem padded : ∀ k n, n < 10 ^ k → 1 ≤ k → (Lib.decDigits n).length ≤ k ∧ List.replicate (k - (Lib.decDigits n).length) 48 ++ Lib.decDigits n = dk k n
  | 0, n, _, h => by omega
  | k + 1, n, h, _ => by
    by_cases hn : n < 10
    · rw [Lib.decDigits_one hn]
      refine ⟨by simp, ?_⟩
      have hz : ∀ k, dk k 0 = List.replicate k 48 := by
        intro k
        induction k with
        | zero => rfl
        | succ k ih =>
          rw [dk, Nat.zero_div, ih, List.replicate_succ']
          rfl
      rw [dk, show n / 10 = 0 by omega, hz]
      simp only [List.length_cons, List.length_nil]
      congr 2
      unfold dg
      rw [Nat.mod_eq_of_lt hn]
    · have hk : 1 ≤ k := by
        rcases Nat.eq_zero_or_pos k with rfl | h'
        · simp at h; omega
        · exact h'
      obtain ⟨h1, h2⟩ := padded k (n / 10) (by rw [Nat.pow_succ] at h; omega) hk
      have he : Lib.decDigits n = Lib.decDigits (n / 10) ++ [dg n] := by
        rw [Lib.decDigits, dif_neg hn]; rfl
      rw [he, List.length_append]
      refine ⟨by simpa using h1, ?_⟩
      rw [dk, ← h2, ← List.append_assoc]
      congr 3
      simp
theorem before_snoc : ∀ (x y : List UInt8) (c d : UInt8), x.length = y.length → bytesBefore (x ++ [c]) (y ++ [d]) = (bytesBefore x y || (x == y && decide (c < d)))
  | [], [], c, d, _ => by simp [bytesBefore]
  | [], _ :: _, _, _, h => by simp at h
  | _ :: _, [], _, _, h => by simp at h
  | a :: x, b :: y, c, d, h => by
    simp only [List.cons_append, bytesBefore]
    rw [before_snoc x y c d (by simpa using h)]
    by_cases h1 : a < b
    · simp [h1]
    · by_cases h2 : a = b
      · subst h2
        simp [h1]
      · simp [h1]
        cases (a == b) <;> simp
theorem dk_before : ∀ k a b, a < b → b < 10 ^ k → bytesBefore (dk k a) (dk k b) = true
  | 0, a, b, h, hb => by simp at hb; omega
  | k + 1, a, b, h, hb => by
    rw [dk, dk, before_snoc _ _ _ _ (by rw [dk_len, dk_len])]
    rw [Nat.pow_succ] at hb
    by_cases hq : a / 10 < b / 10
    · rw [dk_before k (a / 10) (b / 10) hq (by omega)]; rfl
    · have he : a / 10 = b / 10 := by omega
      rw [he]
      have : dg a < dg b := by
        rw [UInt8.lt_iff_toNat_lt, dg_nat, dg_nat]
        omega
      simp [this]

/-! ### names -/
def pre : List UInt8 := [119, 97, 108, 45]
def fresh : List UInt8 := [119, 97, 108, 46, 110, 101, 119]
def segN (n : Nat) : Nm := pre ++ dk 8 n
def shape (x : Nm) : Bool := decide (x.length = 12) && (x.take 4 == pre) && (x.drop 4).all isDig
/-- the number of the segment of that name; 0: it is none's -/
def numOf (x : Nm) : Nat := if shape x then dval (x.drop 4) else 0
theorem segN_len (n : Nat) : (segN n).length = 12 := by rw [segN, List.length_append, dk_len]; rfl
theorem numOf_segN (n : Nat) (h : n ≤ 99999999) : numOf (segN n) = n := by
  have h1 : (segN n).take 4 = pre := by rw [segN]; simp [pre]
  have h2 : (segN n).drop 4 = dk 8 n := by rw [segN]; simp [pre]
  unfold numOf shape
  rw [segN_len, h1, h2, dk_dig, dval_dk 8 n (by simpa using by omega)]
  simp
theorem numOf_pos {x : Nm} (h : 0 < numOf x) : x = segN (numOf x) ∧ numOf x ≤ 99999999 := by
  unfold numOf at h ⊢
  cases hs : shape x with
  | false => rw [hs] at h; simp at h
  | true =>
    rw [if_pos rfl]
    unfold shape at hs
    simp only [Bool.and_eq_true, decide_eq_true_eq, beq_iff_eq] at hs
    obtain ⟨⟨h1, h2⟩, h3⟩ := hs
    obtain ⟨h4, h5⟩ := dval_lt 8 (x.drop 4) (by rw [List.length_drop]; omega) h3
    refine ⟨?_, by simpa using by omega⟩
    rw [segN, h5, ← h2, List.take_append_drop]
theorem segN_inj {a b : Nat} (ha : a ≤ 99999999) (hb : b ≤ 99999999) (h : segN a = segN b) : a = b := by
  have := congrArg numOf h
  rwa [numOf_segN a ha, numOf_segN b hb] at this
theorem before_app (p : List UInt8) : ∀ x y, bytesBefore (p ++ x) (p ++ y) = bytesBefore x y := by
  induction p with
  | nil => intro x y; rfl
  | cons c p ih => intro x y; simp [bytesBefore, ih]
theorem segN_before {a b : Nat} (h : a < b) (hb : b ≤ 99999999) : bytesBefore (segN a) (segN b) = true := by
  rw [segN, segN, before_app]
  exact dk_before 8 a b h (by simpa using by omega)
theorem okC_dig {c : UInt8} (h : isDig c = true) : Dk.okC c = true := by
  unfold isDig at h
  unfold Dk.okC
  rw [h]
  simp
theorem okN_segN (n : Nat) : Dk.okN (segN n) = true := by
  unfold Dk.okN
  rw [segN_len]
  have : (segN n).all Dk.okC = true := by
    rw [segN, List.all_append, Bool.and_eq_true]
    refine ⟨by decide, ?_⟩
    rw [List.all_eq_true]
    intro c hc
    exact okC_dig (List.all_eq_true.1 (dk_dig 8 n) c hc)
  rw [this]
  rfl
theorem okN_fresh : Dk.okN fresh = true := by decide
theorem numOf_fresh : numOf fresh = 0 := by decide
theorem segN_ne_fresh (n : Nat) : segN n ≠ fresh := by
  intro h
  have := congrArg List.length h
  rw [segN_len] at this
  exact absurd this (by decide)
end Go.Proofs.YtgmpdifggaggdaaGreatDoor.Wl

namespace Go.Proofs.YtgmpdifggaggdaaGreatDoor.Wl
open Go.Proofs.YtgmpdifggaggdaaGreatDoor.Fld Go.Proofs.YtgmpdifggaggdaaGreatDoor.Rc

def MI : Nat := 1099511627776
structure E where
  idx : Nat
  term : Nat
  kind : Nat
  data : List Int
def E.Ok (e : E) : Prop := 1 ≤ e.idx ∧ e.idx ≤ MI ∧ e.term ≤ MI ∧ e.kind ≤ 7 ∧ e.data.length ≤ 4096 ∧ Bytes e.data
/-- what a record does -/
inductive Ch where
  | head (n i : Nat)
  | entry (e : E)
  | cut (i : Nat)
  | reset (i : Nat)

/-! ### contents -/
def rI (b : List Int) (low high : Nat) : Option (Nat × List Int) :=
  match cutInt b with
  | some (v, r) => if (low : Int) ≤ v ∧ v ≤ (high : Int) then some (v.toNat, r) else none
  | none => none
def rT (b : List Int) (most : Nat) : Option (List Int × List Int) :=
  match cutText b with
  | some (t, r) => if t.length ≤ most then some (t, r) else none
  | none => none
def decH (r : List Int) : Option Ch :=
  match rI r 1 99999999 with
  | none => none
  | some (n, r1) => match rI r1 1 (MI + 1) with
    | none => none
    | some (i, r2) => if r2 = [] then some (.head n i) else none
def decE (r : List Int) : Option Ch :=
  match rI r 1 MI with
  | none => none
  | some (i, r1) => match rI r1 0 MI with
    | none => none
    | some (t, r2) => match rI r2 0 7 with
      | none => none
      | some (k, r3) => match rT r3 4096 with
        | none => none
        | some (d, r4) => if r4 = [] then some (.entry ⟨i, t, k, d⟩) else none
def decI (k : Nat) (r : List Int) : Option Ch :=
  match rI r 1 (MI + 1) with
  | none => none
  | some (i, r1) => if r1 = [] then some (if k = 2 then .cut i else .reset i) else none
def dec (b : List Int) : Option Ch :=
  match rI b 0 3 with
  | none => none
  | some (k, r) => if k = 0 then decH r else if k = 1 then decE r else decI k r
def enc (l : List Nat) : List Int := l.flatMap code
def chC : Ch → List Int
  | .head n i => enc [0, n, i]
  | .entry e => enc [1, e.idx, e.term, e.kind] ++ textC e.data
  | .cut i => enc [2, i]
  | .reset i => enc [3, i]
def Ch.Ok : Ch → Prop
  | .head n i => 1 ≤ n ∧ n ≤ 99999999 ∧ 1 ≤ i ∧ i ≤ MI + 1
  | .entry e => e.Ok
  | .cut i => 1 ≤ i ∧ i ≤ MI + 1
  | .reset i => 1 ≤ i ∧ i ≤ MI + 1
theorem rI_code (n low high : Nat) (r : List Int) (h1 : low ≤ n) (h2 : n ≤ high) (h3 : n ≤ 9223372036854775807) : rI (code n ++ r) low high = some (n, r) := by
  have := cutInt_code (n : Int) (by omega) (by omega) r
  rw [intC_pos _ (by omega), Int.toNat_natCast] at this
  unfold rI
  rw [this]
  simp only
  rw [if_pos ⟨by omega, by omega⟩, Int.toNat_natCast]
theorem rT_code (d : List Int) (most : Nat) (r : List Int) (h : d.length ≤ most) (h2 : d.length ≤ 4096) : rT (textC d ++ r) most = some (d, r) := by
  unfold rT
  rw [cutText_code d (by omega) r]
  simp only
  rw [if_pos h]
theorem dec_chC (c : Ch) (h : c.Ok) : dec (chC c) = some c := by
  cases c with
  | head n i =>
    obtain ⟨h1, h2, h3, h4⟩ := h
    unfold MI at h4
    simp only [chC, enc, List.flatMap_cons, List.flatMap_nil, List.append_nil]
    unfold dec
    rw [rI_code 0 0 3 _ (by omega) (by omega) (by omega)]
    simp only [if_true]
    unfold decH
    rw [rI_code n 1 _ _ h1 h2 (by omega)]
    simp only
    have := rI_code i 1 (MI + 1) [] h3 (by unfold MI; omega) (by omega)
    rw [List.append_nil] at this
    rw [this]
    simp
  | entry e =>
    obtain ⟨h1, h2, h3, h4, h5, h6⟩ := h
    unfold MI at h2 h3
    simp only [chC, enc, List.flatMap_cons, List.flatMap_nil, List.append_nil, List.append_assoc]
    unfold dec
    rw [rI_code 1 0 3 _ (by omega) (by omega) (by omega)]
    simp only [show ¬ (1 : Nat) = 0 by omega, if_false, if_true]
    unfold decE
    rw [rI_code e.idx 1 _ _ h1 (by unfold MI; omega) (by omega)]
    simp only
    rw [rI_code e.term 0 _ _ (by omega) (by unfold MI; omega) (by omega)]
    simp only
    rw [rI_code e.kind 0 _ _ (by omega) h4 (by omega)]
    simp only
    have := rT_code e.data 4096 [] h5 h5
    rw [List.append_nil] at this
    rw [this]
    simp
  | cut i =>
    obtain ⟨h1, h2⟩ := h
    unfold MI at h2
    simp only [chC, enc, List.flatMap_cons, List.flatMap_nil, List.append_nil]
    unfold dec
    rw [rI_code 2 0 3 _ (by omega) (by omega) (by omega)]
    simp only [show ¬ (2 : Nat) = 0 by omega, show ¬ (2 : Nat) = 1 by omega, if_false]
    unfold decI
    have := rI_code i 1 (MI + 1) [] h1 (by unfold MI; omega) (by omega)
    rw [List.append_nil] at this
    rw [this]
    simp
  | reset i =>
    obtain ⟨h1, h2⟩ := h
    unfold MI at h2
    simp only [chC, enc, List.flatMap_cons, List.flatMap_nil, List.append_nil]
    unfold dec
    rw [rI_code 3 0 3 _ (by omega) (by omega) (by omega)]
    simp only [show ¬ (3 : Nat) = 0 by omega, show ¬ (3 : Nat) = 1 by omega, if_false]
    unfold decI
    have := rI_code i 1 (MI + 1) [] h1 (by unfold MI; omega) (by omega)
    rw [List.append_nil] at this
    rw [this]
    simp
theorem rI_ok {b : List Int} {low high n : Nat} {r : List Int} (h : rI b low high = some (n, r)) : low ≤ n ∧ n ≤ high := by
  unfold rI at h
  split at h
  · split at h
    · rename_i hc
      cases h
      omega
    · cases h
  · cases h
theorem bytes_cutNum {b : List Int} (hb : Bytes b) {n : Nat} {r : List Int} (h : cutNum b = some (n, r)) : Bytes r := by
  cases b with
  | nil => cases h
  | cons c l =>
    replace h : (if okD l c.toNat then some (val (l.take c.toNat), l.drop c.toNat) else none) = some (n, r) := h
    split at h
    · cases h
      exact bytes_drop (fun x hx => hb x (by simp [hx])) _
    · cases h
theorem bytes_rI {b : List Int} (hb : Bytes b) {low high n : Nat} {r : List Int} (h : rI b low high = some (n, r)) : Bytes r := by
  have hl : ∀ l : List Int, ∀ c, b = c :: l → Bytes l := fun l c e => fun x hx => hb x (by rw [e]; simp [hx])
  unfold rI at h
  cases b with
  | nil => simp [cutInt] at h
  | cons c l =>
    have hl := hl l c rfl
    split at h
    · rename_i v r' hc
      split at h
      · cases h
        replace hc : (if c ≤ 8 then if okD l c.toNat ∧ val (l.take c.toNat) ≤ 9223372036854775807 then some ((val (l.take c.toNat) : Int), l.drop c.toNat) else none
          else if 16 < c ∧ okD l (c - 16).toNat ∧ val (l.take (c - 16).toNat) ≤ 9223372036854775808 then some (-(val (l.take (c - 16).toNat) : Int), l.drop (c - 16).toNat) else none) = some (v, r) := hc
        split at hc
        · split at hc
          · cases hc; exact bytes_drop hl _
          · cases hc
        · split at hc
          · cases hc; exact bytes_drop hl _
          · cases hc
      · cases h
    · cases h
theorem rT_ok {b : List Int} (hb : Bytes b) {most : Nat} {d r : List Int} (h : rT b most = some (d, r)) : d.length ≤ most ∧ Bytes d := by
  unfold rT at h
  split at h
  · rename_i t r' hc
    split at h
    · cases h
      refine ⟨by assumption, ?_⟩
      unfold cutText at hc
      split at hc
      · cases hc
      · rename_i n r0 hn
        split at hc
        · cases hc
          exact bytes_take (bytes_cutNum hb hn) _
        · cases hc
    · cases h
  · cases h
/-- what was read may be -/
theorem dec_ok {b : List Int} (hb : Bytes b) {c : Ch} (h : dec b = some c) : c.Ok := by
  unfold dec at h
  split at h
  · cases h
  · rename_i k r hk
    have hr := bytes_rI hb hk
    split at h
    · unfold decH at h
      split at h
      · cases h
      · rename_i n r1 hn
        split at h
        · cases h
        · rename_i i r2 hi
          split at h
          · cases h
            exact ⟨(rI_ok hn).1, (rI_ok hn).2, (rI_ok hi).1, (rI_ok hi).2⟩
          · cases h
    · split at h
      · unfold decE at h
        split at h
        · cases h
        · rename_i i r1 h1
          split at h
          · cases h
          · rename_i t r2 h2
            split at h
            · cases h
            · rename_i kd r3 h3
              split at h
              · cases h
              · rename_i d r4 h4
                split at h
                · cases h
                  have hd := rT_ok (bytes_rI (bytes_rI (bytes_rI hr h1) h2) h3) h4
                  exact ⟨(rI_ok h1).1, (rI_ok h1).2, (rI_ok h2).2, (rI_ok h3).2, hd.1, hd.2⟩
                · cases h
      · unfold decI at h
        split at h
        · cases h
        · rename_i i r1 h1
          split at h
          · split at h
            · cases h
              exact ⟨(rI_ok h1).1, (rI_ok h1).2⟩
            · cases h
              exact ⟨(rI_ok h1).1, (rI_ok h1).2⟩
          · cases h

/-! ### logs -/
structure Lg where
  base : Nat
  es : List E
def Lg.last (l : Lg) : Nat := l.base + l.es.length
def Lg.Ok (l : Lg) : Prop := l.last ≤ MI ∧ ∀ e ∈ l.es, e.Ok
def Lg.add (l : Lg) (e : E) : Lg := ⟨l.base, l.es ++ [e]⟩
def Lg.cut (l : Lg) (i : Nat) : Lg := if i ≤ l.base then ⟨i - 1, []⟩ else ⟨l.base, l.es.take (i - 1 - l.base)⟩
def Lg.restart (i : Nat) : Lg := ⟨i - 1, []⟩
theorem Lg.Ok.restart {i : Nat} (h : i ≤ MI + 1) : (Lg.restart i).Ok := ⟨by simp only [Lg.last, Lg.restart, List.length_nil]; omega, fun e he => by simp [Lg.restart] at he⟩
theorem Lg.Ok.cut {l : Lg} (h : l.Ok) {i : Nat} (hi : i ≤ MI + 1) : (l.cut i).Ok := by
  unfold Lg.cut
  split
  · exact Lg.Ok.restart hi
  · refine ⟨?_, fun e he => h.2 e (List.mem_of_mem_take he)⟩
    have := h.1
    simp only [Lg.last, List.length_take] at *
    omega
theorem Lg.Ok.add {l : Lg} (h : l.Ok) {e : E} (he : e.Ok) (hi : e.idx = l.last + 1) : (l.add e).Ok := by
  refine ⟨?_, fun x hx => ?_⟩
  · have := he.2.1
    simp only [Lg.last, Lg.add, List.length_append, List.length_cons, List.length_nil] at *
    omega
  · rcases List.mem_append.1 hx with hx | hx
    · exact h.2 x hx
    · simp at hx; rw [hx]; exact he

/-! ### the recoverable content -/
structure Sg where
  num : Nat
  next : Nat
  size : Nat
structure Ct where
  lg : Lg
  segs : List Sg
def ct0 : Ct := ⟨⟨0, []⟩, []⟩
def addSz (k : Nat) : List Sg → List Sg
  | [] => []
  | [s] => [⟨s.num, s.next, s.size + k⟩]
  | s :: t :: r => s :: addSz k (t :: r)
theorem addSz_snoc (k : Nat) (xs : List Sg) (s : Sg) : addSz k (xs ++ [s]) = xs ++ [⟨s.num, s.next, s.size + k⟩] := by
  induction xs with
  | nil => rfl
  | cons x xs ih =>
    cases xs with
    | nil => rfl
    | cons y ys =>
      show x :: addSz k (y :: ys ++ [s]) = _
      rw [ih]
      rfl
def follows (c : Ct) (n i : Nat) : Prop := match c.segs.getLast? with | none => True | some s => n = s.num + 1 ∧ i = c.lg.last + 1
instance (c : Ct) (n i : Nat) : Decidable (follows c n i) := by unfold follows; split <;> infer_instance
def acc (num : Nat) (first : Bool) (c : Ct) (b : List Int) : Option Ct :=
  match dec b with
  | none => none
  | some (.head n i) => if first = true ∧ n = num ∧ follows c n i then some ⟨if c.segs = [] then Lg.restart i else c.lg, c.segs ++ [⟨n, i, 8 + b.length⟩]⟩ else none
  | some (.entry e) => if first = false ∧ e.idx = c.lg.last + 1 then some ⟨c.lg.add e, addSz (8 + b.length) c.segs⟩ else none
  | some (.cut i) => if first = false then some ⟨c.lg.cut i, addSz (8 + b.length) c.segs⟩ else none
  | some (.reset i) => if first = false then some ⟨Lg.restart i, addSz (8 + b.length) c.segs⟩ else none
/-- a segment's records, one behind the other; were all taken? -/
def scanR (num : Nat) (first : Bool) (c : Ct) : List (List Int) → Ct × Bool
  | [] => (c, true)
  | b :: r => match acc num first c b with
    | none => (c, false)
    | some c' => scanR num false c' r
open Classical in
/-- the records with which bytes begin -/
noncomputable def recsOf (zs : List Int) : List (List Int) := if h : ∃ ts, Sc zs ts then Classical.choose h else []
theorem recsOf_eq {zs : List Int} {ts : List (List Int)} (h : Sc zs ts) : recsOf zs = ts := by
  unfold recsOf
  rw [dif_pos ⟨ts, h⟩]
  exact Sc.uniq (Classical.choose_spec (⟨ts, h⟩ : ∃ ts, Sc zs ts)) h
/-- is a segment's file taken whole? -/
def goesOn (zs : List Int) (ts : List (List Int)) (ok : Bool) : Bool := ok && !ts.isEmpty && decide (zs.length ≤ (recs ts).length)
noncomputable def scanS (c : Ct) : List (Nat × List Int) → Ct
  | [] => c
  | (n, zs) :: r => if goesOn zs (recsOf zs) (scanR n true c (recsOf zs)).2 then scanS (scanR n true c (recsOf zs)).1 r else (scanR n true c (recsOf zs)).1
/-- the segments on a disk -/
def segsOf (fs : List Dk.Fil) : List (Nat × List Int) := fs.filterMap fun f => if 0 < numOf f.1 then some (numOf f.1, f.2.1) else none
noncomputable def scanD (fs : List Dk.Fil) : Ct := scanS ct0 (segsOf fs)
def Ct.Ok (c : Ct) : Prop := c.lg.Ok ∧ ∀ s ∈ c.segs, 1 ≤ s.num ∧ s.num ≤ 99999999 ∧ 1 ≤ s.next ∧ s.next ≤ MI + 1
theorem ct0_ok : ct0.Ok := ⟨⟨by simp [Lg.last, ct0, MI], fun e he => by simp [ct0] at he⟩, fun s hs => by simp [ct0] at hs⟩
theorem addSz_mem {k : Nat} : ∀ {l : List Sg} {s : Sg}, s ∈ addSz k l → ∃ u ∈ l, s.num = u.num ∧ s.next = u.next
  | [], s, h => by simp [addSz] at h
  | [u], s, h => by simp [addSz] at h; subst h; exact ⟨u, by simp, rfl, rfl⟩
  | u :: t :: r, s, h => by
    rw [addSz, List.mem_cons] at h
    rcases h with rfl | h
    · exact ⟨s, by simp, rfl, rfl⟩
    · obtain ⟨x, hx, e⟩ := addSz_mem h
      exact ⟨x, by simp at hx ⊢; exact .inr hx, e⟩
theorem Ct.Ok.sized {c : Ct} (h : c.Ok) {l : Lg} (hl : l.Ok) (k : Nat) : (Ct.mk l (addSz k c.segs)).Ok := by
  refine ⟨hl, fun s hs => ?_⟩
  obtain ⟨u, hu, e1, e2⟩ := addSz_mem hs
  rw [e1, e2]
  exact h.2 u hu
theorem acc_ok {num : Nat} {first : Bool} {c c' : Ct} {b : List Int} (hb : Bytes b) (hc : c.Ok) (h : acc num first c b = some c') : c'.Ok := by
  unfold acc at h
  split at h
  · cases h
  · rename_i n i hd
    have hk := dec_ok hb hd
    split at h
    · cases h
      refine ⟨?_, fun s hs => ?_⟩
      · show (if c.segs = [] then Lg.restart i else c.lg).Ok
        split
        · exact Lg.Ok.restart hk.2.2.2
        · exact hc.1
      · rcases List.mem_append.1 hs with hs | hs
        · exact hc.2 s hs
        · simp at hs; subst hs; exact hk
    · cases h
  · rename_i e hd
    have hk := dec_ok hb hd
    split at h
    · rename_i hf
      cases h
      exact hc.sized (hc.1.add hk hf.2) _
    · cases h
  · rename_i i hd
    have hk := dec_ok hb hd
    split at h
    · cases h
      exact hc.sized (hc.1.cut hk.2) _
    · cases h
  · rename_i i hd
    have hk := dec_ok hb hd
    split at h
    · cases h
      exact hc.sized (Lg.Ok.restart hk.2) _
    · cases h
theorem scanR_ok {num : Nat} : ∀ {ts : List (List Int)} {first : Bool} {c : Ct}, (∀ b ∈ ts, Bytes b) → c.Ok → (scanR num first c ts).1.Ok
  | [], _, _, _, h => h
  | b :: r, first, c, hb, h => by
    unfold scanR
    split
    · exact h
    · rename_i c' hc
      exact scanR_ok (fun x hx => hb x (by simp [hx])) (acc_ok (hb b (by simp)) h hc)
end Go.Proofs.YtgmpdifggaggdaaGreatDoor.Wl

namespace Go.Proofs.YtgmpdifggaggdaaGreatDoor.Wl
open Go.Proofs.YtgmpdifggaggdaaGreatDoor.Fld Go.Proofs.YtgmpdifggaggdaaGreatDoor.Rc
set_option linter.unusedVariables false

/-- a content that was read from N bytes -/
def Bd (c : Ct) (N : Nat) : Prop := 9 * c.lg.es.length ≤ N ∧ 9 * c.segs.length ≤ N ∧ ∀ s ∈ c.segs, s.size ≤ N
theorem Bd.zero : Bd ct0 0 := ⟨by simp [ct0], by simp [ct0], fun s hs => by simp [ct0] at hs⟩
theorem Bd.more {c : Ct} {N M : Nat} (h : Bd c N) (hm : N ≤ M) : Bd c M := ⟨Nat.le_trans h.1 hm, Nat.le_trans h.2.1 hm, fun s hs => Nat.le_trans (h.2.2 s hs) hm⟩
theorem addSz_len (k : Nat) : ∀ l : List Sg, (addSz k l).length = l.length
  | [] => rfl
  | [s] => rfl
  | s :: t :: r => by rw [addSz, List.length_cons, addSz_len k (t :: r)]; rfl
theorem addSz_bd (k N : Nat) : ∀ (l : List Sg), (∀ s ∈ l, s.size ≤ N) → ∀ s ∈ addSz k l, s.size ≤ N + k
  | [], _, s, hs => by simp [addSz] at hs
  | [u], h, s, hs => by
    simp only [addSz, List.mem_singleton] at hs
    subst hs
    have := h u (by simp)
    simp only
    omega
  | u :: t :: r, h, s, hs => by
    rw [addSz, List.mem_cons] at hs
    rcases hs with rfl | hs
    · have := h s (by simp); omega
    · exact addSz_bd k N (t :: r) (fun x hx => h x (by simp at hx ⊢; exact .inr hx)) s hs
theorem addSz_ne {k : Nat} {l : List Sg} (h : l ≠ []) : addSz k l ≠ [] := by
  intro he
  have := addSz_len k l
  rw [he] at this
  exact h (List.eq_nil_of_length_eq_zero this.symm)
theorem dec_nil : dec [] = none := by
  unfold dec rI
  simp [cutInt]
theorem acc_pos {num : Nat} {first : Bool} {c c' : Ct} {b : List Int} (h : acc num first c b = some c') : 1 ≤ b.length := by
  cases b with
  | nil =>
    unfold acc at h
    rw [dec_nil] at h
    cases h
  | cons x r => simp
theorem acc_bd {num : Nat} {first : Bool} {c c' : Ct} {b : List Int} {N : Nat} (hB : Bd c N) (h : acc num first c b = some c') : Bd c' (N + (8 + b.length)) := by
  have hp := acc_pos h
  obtain ⟨h1, h2, h3⟩ := hB
  have hsz : Bd ⟨c.lg, addSz (8 + b.length) c.segs⟩ (N + (8 + b.length)) := ⟨by simp only; omega, by simp only; rw [addSz_len]; omega, addSz_bd _ _ _ h3⟩
  unfold acc at h
  split at h
  · cases h
  · rename_i n i hd
    split at h
    · cases h
      refine ⟨?_, ?_, ?_⟩
      · simp only
        split
        · simp [Lg.restart]
        · omega
      · simp only [List.length_append, List.length_cons, List.length_nil]; omega
      · intro s hs
        rcases List.mem_append.1 hs with hs | hs
        · have := h3 s hs; omega
        · simp at hs; subst hs; simp only; omega
    · cases h
  · rename_i e hd
    split at h
    · cases h
      exact ⟨by simp only [Lg.add, List.length_append, List.length_cons, List.length_nil]; omega, hsz.2.1, hsz.2.2⟩
    · cases h
  · rename_i i hd
    split at h
    · cases h
      refine ⟨?_, hsz.2.1, hsz.2.2⟩
      simp only [Lg.cut]
      split
      · simp
      · simp only [List.length_take]; omega
    · cases h
  · rename_i i hd
    split at h
    · cases h
      exact ⟨by simp [Lg.restart], hsz.2.1, hsz.2.2⟩
    · cases h
theorem acc_segs {num : Nat} {first : Bool} {c c' : Ct} {b : List Int} (h : acc num first c b = some c') (hf : first = false → c.segs ≠ []) : c'.segs ≠ [] := by
  unfold acc at h
  split at h
  · cases h
  · split at h
    · cases h
      simp
    · cases h
  · split at h
    · rename_i hc
      cases h
      exact addSz_ne (hf hc.1)
    · cases h
  · split at h
    · rename_i hc
      cases h
      exact addSz_ne (hf hc)
    · cases h
  · split at h
    · rename_i hc
      cases h
      exact addSz_ne (hf hc)
    · cases h
theorem scanR_none {num : Nat} {first : Bool} {c : Ct} {b : List Int} {r : List (List Int)} (h : acc num first c b = none) : scanR num first c (b :: r) = (c, false) := by
  rw [scanR, h]
theorem scanR_some {num : Nat} {first : Bool} {c c' : Ct} {b : List Int} {r : List (List Int)} (h : acc num first c b = some c') : scanR num first c (b :: r) = scanR num false c' r := by
  rw [scanR, h]
end Go.Proofs.YtgmpdifggaggdaaGreatDoor.Wl
