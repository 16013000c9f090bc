/-
  Several texts in one: Plain mathematics of the cyclic sum (no program in it): a step on 32 bits, its linearity, that it loses nothing; the sum of bytes as a fold; how sums of parts go together. Conditions: none but those that each theorem states. The plain mathematics of layer 5: four bytes of a number, a record, records one behind the other, the record with which bytes begin, and the contents that a scan tells (Sc): one answer for all bytes. No condition but those that each theorem states. The plain mathematics of layer 6, second part: what a record's content says, what it does to a log, and the recoverable content of segments. No condition but those that each theorem states. The plain mathematics of layer 6: how large a content becomes that is read from so many bytes. No condition but those that each theorem states. The plain mathematics of layer 7, first part: what writing a file whole makes of a disk, and what a load of a hard state tells of it. No condition but those that each theorem states.
-/
import Derived.Laws.BitsAllLaws
import Derived.KernelRfl
import Derived.Test.YtnppomiggajhnaaGreatDoorJDiskMath
namespace Go.Proofs.YtnppomiggajhnaaGreatDoor.Crc

/-- a 32-bit number, as the whole number that it is -/
def uv (x : BitVec 32) : Int := (x.toNat : Int)
/-- a whole number, as 32 bits -/
def bv (n : Int) : BitVec 32 := BitVec.ofNat 32 n.toNat

theorem uv_nonneg (x : BitVec 32) : 0 ≤ uv x := by unfold uv; omega
theorem uv_lt (x : BitVec 32) : uv x < 4294967296 := by unfold uv; have := x.isLt; omega
theorem uv_le (x : BitVec 32) : uv x ≤ 4294967295 := by have := uv_lt x; omega
theorem uv_bv (n : Int) (h0 : 0 ≤ n) (h1 : n < 4294967296) : uv (bv n) = n := by
  unfold uv bv; rw [BitVec.toNat_ofNat, Nat.mod_eq_of_lt (by omega)]; omega
theorem bv_uv (x : BitVec 32) : bv (uv x) = x := by unfold uv bv; simp
theorem uv_inj {x y : BitVec 32} (h : uv x = uv y) : x = y := by rw [← bv_uv x, h, bv_uv]
theorem uv_eq_iff (x y : BitVec 32) : uv x = uv y ↔ x = y := ⟨uv_inj, fun h => by rw [h]⟩

def poly : BitVec 32 := BitVec.ofNat 32 2197175160
def ones : BitVec 32 := BitVec.ofNat 32 4294967295
theorem uv_poly : uv poly = 2197175160 := by decide
theorem uv_ones : uv ones = 4294967295 := by decide
theorem uv_zero : uv (0#32) = 0 := by decide

theorem xor_uv (x y : BitVec 32) : bits .xor .u32 (uv x) (uv y) = uv (x ^^^ y) := by
  unfold uv; rw [u32_xor_nat _ _ x.isLt y.isLt, BitVec.toNat_xor]
theorem xor_uv_poly (x : BitVec 32) : bits .xor .u32 (uv x) 2197175160 = uv (x ^^^ poly) := by rw [← uv_poly]; exact xor_uv x poly
theorem xor_uv_ones (x : BitVec 32) : bits .xor .u32 (uv x) 4294967295 = uv (x ^^^ ones) := by rw [← uv_ones]; exact xor_uv x ones
theorem half_uv (x : BitVec 32) : uv x / (2 : Int) = uv (x >>> (1 : Nat)) := by
  unfold uv; rw [BitVec.toNat_ushiftRight, Nat.shiftRight_eq_div_pow]; omega

/-- one step of the register -/
def stp (x : BitVec 32) : BitVec 32 := (x >>> 1) ^^^ (if x.getLsbD 0 then poly else 0#32)
theorem lsb_iff (x : BitVec 32) : x.getLsbD 0 = true ↔ uv x % 2 = 1 := by
  unfold uv BitVec.getLsbD; rw [Nat.testBit_zero]; simp; omega
theorem stp_odd (x : BitVec 32) (h : uv x % 2 = 1) : stp x = (x >>> 1) ^^^ poly := by
  unfold stp; rw [if_pos ((lsb_iff x).2 h)]
theorem stp_even (x : BitVec 32) (h : ¬ uv x % 2 = 1) : stp x = x >>> 1 := by
  unfold stp; rw [if_neg (fun e => h ((lsb_iff x).1 e))]; simp

theorem stp_xor (x y : BitVec 32) : stp (x ^^^ y) = stp x ^^^ stp y := by
  unfold stp
  rw [BitVec.ushiftRight_xor_distrib, BitVec.getLsbD_xor]
  cases x.getLsbD 0 <;> cases y.getLsbD 0 <;> simp
  · ac_rfl
  · ac_rfl
  · rw [show x >>> 1 ^^^ poly ^^^ (y >>> 1 ^^^ poly) = (x >>> 1 ^^^ y >>> 1) ^^^ (poly ^^^ poly) by ac_rfl]; simp

theorem stp_zero : stp 0#32 = 0#32 := by decide
theorem poly_top : poly.getLsbD 31 = true := by decide
theorem stp_eq_zero (x : BitVec 32) (h : stp x = 0#32) : x = 0#32 := by
  by_cases hl : x.getLsbD 0 = true
  · exfalso
    unfold stp at h; rw [if_pos hl] at h
    have h2 := congrArg (fun z => z.getLsbD 31) h
    have h3 : (x >>> 1).getLsbD 31 = false := by rw [BitVec.getLsbD_ushiftRight]; exact BitVec.getLsbD_of_ge x _ (by omega)
    have h4 : (0#32).getLsbD 31 = false := by decide
    simp only [BitVec.getLsbD_xor, h3, h4, poly_top] at h2
    cases h2
  · unfold stp at h; rw [if_neg hl, BitVec.xor_zero] at h
    apply BitVec.eq_of_getLsbD_eq
    intro i hi
    rcases i with _ | i
    · simpa using hl
    · have h2 := congrArg (fun z => z.getLsbD i) h
      simp [BitVec.getLsbD_ushiftRight] at h2
      simpa [Nat.add_comm] using h2

def stps : Nat → BitVec 32 → BitVec 32
  | 0, x => x
  | n + 1, x => stps n (stp x)
theorem stps_zero (x : BitVec 32) : stps 0 x = x := rfl
theorem stps_succ (n : Nat) (x : BitVec 32) : stps (n + 1) x = stps n (stp x) := rfl
theorem stps_add (m n : Nat) (x : BitVec 32) : stps (m + n) x = stps n (stps m x) := by
  induction m generalizing x with
  | zero => simp [stps]
  | succ m ih => rw [show m + 1 + n = (m + n) + 1 by omega, stps_succ, ih, stps_succ]
theorem stps_last (n : Nat) (x : BitVec 32) : stps (n + 1) x = stp (stps n x) := by rw [stps_add]; rfl
theorem stps_xor (n : Nat) (x y : BitVec 32) : stps n (x ^^^ y) = stps n x ^^^ stps n y := by
  induction n generalizing x y with
  | zero => rfl
  | succ n ih => rw [stps_succ, stp_xor, ih]; rfl
theorem stps_of_zero (n : Nat) : stps n 0#32 = 0#32 := by
  induction n with
  | zero => rfl
  | succ n ih => rw [stps_succ, stp_zero, ih]
theorem stps_eq_zero (n : Nat) (x : BitVec 32) (h : stps n x = 0#32) : x = 0#32 := by
  induction n generalizing x with
  | zero => exact h
  | succ n ih => rw [stps_succ] at h; exact stp_eq_zero x (ih _ h)

/-- the register behind one byte, and behind many -/
def upd (r : BitVec 32) (c : Int) : BitVec 32 := stps 8 (r ^^^ bv c)
def feed (r : BitVec 32) (zs : List Int) : BitVec 32 := zs.foldl upd r
theorem feed_nil (r : BitVec 32) : feed r [] = r := rfl
theorem feed_cons (r : BitVec 32) (c : Int) (zs : List Int) : feed r (c :: zs) = feed (upd r c) zs := rfl
theorem feed_append (r : BitVec 32) (xs ys : List Int) : feed r (xs ++ ys) = feed (feed r xs) ys := by unfold feed; rw [List.foldl_append]
theorem feed_snoc (r : BitVec 32) (xs : List Int) (c : Int) : feed r (xs ++ [c]) = upd (feed r xs) c := feed_append r xs [c]
theorem feed_take (r : BitVec 32) (zs : List Int) (k : Nat) (h : k < zs.length) : feed r (zs.take (k + 1)) = upd (feed r (zs.take k)) (zs.getD k 0) := by
  rw [List.take_succ_eq_append_getElem h, feed_snoc]; simp [h]

/-- the sum of bytes behind those whose sum is s -/
def addS (s : BitVec 32) (zs : List Int) : BitVec 32 := feed (s ^^^ ones) zs ^^^ ones
def sumS (zs : List Int) : BitVec 32 := addS 0#32 zs

theorem xor_ones_ones (x : BitVec 32) : x ^^^ ones ^^^ ones = x := by rw [BitVec.xor_assoc, BitVec.xor_self, BitVec.xor_zero]
theorem addS_append (s : BitVec 32) (xs ys : List Int) : addS s (xs ++ ys) = addS (addS s xs) ys := by
  unfold addS; rw [feed_append, xor_ones_ones]
theorem sumS_append (xs ys : List Int) : sumS (xs ++ ys) = addS (sumS xs) ys := addS_append _ xs ys
theorem addS_nil (s : BitVec 32) : addS s [] = s := by unfold addS; rw [feed_nil, xor_ones_ones]

/-- one register is another one laid over the difference -/
theorem feed_xor (r d : BitVec 32) (zs : List Int) : feed (r ^^^ d) zs = feed r zs ^^^ stps (8 * zs.length) d := by
  induction zs generalizing r d with
  | nil => rfl
  | cons c zs ih =>
    rw [feed_cons, feed_cons]
    have : upd (r ^^^ d) c = upd r c ^^^ stps 8 d := by
      unfold upd; rw [← stps_xor]; congr 1; ac_rfl
    rw [this, ih, List.length_cons, show 8 * (zs.length + 1) = 8 + 8 * zs.length by omega, stps_add]

/-- the sum of two parts, joined -/
theorem sumS_join (xs ys : List Int) : sumS (xs ++ ys) = stps (8 * ys.length) (sumS xs) ^^^ sumS ys := by
  rw [sumS_append]
  have e : addS (sumS xs) ys = feed (ones ^^^ sumS xs) ys ^^^ ones := by unfold addS; rw [BitVec.xor_comm ones]
  have z : sumS ys = feed ones ys ^^^ ones := by unfold sumS addS; simp
  rw [e, z, feed_xor]; ac_rfl

/-- bytes laid over one another -/
theorem bv_xor (a b : Int) (ha : 0 ≤ a) (ha' : a ≤ 255) (hb : 0 ≤ b) (hb' : b ≤ 255) : bv (bits .xor .u8 a b) = bv a ^^^ bv b := by
  rw [u8_xor a b ha (by omega) hb (by omega)]
  apply BitVec.eq_of_toNat_eq
  unfold bv
  simp only [Int.toNat_natCast, BitVec.toNat_xor, BitVec.toNat_ofNat]
  have h1 : a.toNat % 2 ^ 32 = a.toNat := Nat.mod_eq_of_lt (by omega)
  have h2 : b.toNat % 2 ^ 32 = b.toNat := Nat.mod_eq_of_lt (by omega)
  rw [h1, h2, Nat.mod_eq_of_lt]
  exact Nat.xor_lt_two_pow (by omega) (by omega)
theorem xor8_bd (a b : Int) (ha : 0 ≤ a) (ha' : a ≤ 255) (hb : 0 ≤ b) (hb' : b ≤ 255) : 0 ≤ bits .xor .u8 a b ∧ bits .xor .u8 a b ≤ 255 := by
  rw [u8_xor a b ha (by omega) hb (by omega)]
  have := Nat.xor_lt_two_pow (x := a.toNat) (y := b.toNat) (n := 8) (by omega) (by omega)
  omega

/-- the low byte apart: what is above it only moves down -/
theorem stps_high (k : Nat) (y : BitVec 32) (h : ∀ i, i < k → y.getLsbD i = false) : stps k y = y >>> k := by
  induction k generalizing y with
  | zero => simp [stps]
  | succ k ih =>
    rw [stps_succ]
    have h0 : stp y = y >>> 1 := by unfold stp; rw [h 0 (by omega)]; simp
    rw [h0, ih]
    · rw [← BitVec.shiftRight_add, Nat.add_comm]
    · intro i hi; rw [BitVec.getLsbD_ushiftRight]; exact h _ (by omega)
theorem stps_low (r t : BitVec 32) : stps 8 (r ^^^ t) = stps 8 (r ^^^ (t &&& 255#32)) ^^^ (t >>> 8) := by
  have e : t = (t &&& 255#32) ^^^ (t &&& ~~~255#32) := by
    apply BitVec.eq_of_getLsbD_eq; intro i hi
    simp only [BitVec.getLsbD_xor, BitVec.getLsbD_and, BitVec.getLsbD_not, hi, decide_true, Bool.true_and]
    cases t.getLsbD i <;> cases (255#32).getLsbD i <;> rfl
  have hs : stps 8 (t &&& ~~~255#32) = t >>> 8 := by
    rw [stps_high]
    · apply BitVec.eq_of_getLsbD_eq; intro i hi
      rw [BitVec.getLsbD_ushiftRight, BitVec.getLsbD_ushiftRight, BitVec.getLsbD_and]
      by_cases h8 : 8 + i < 32
      · have : (~~~255#32).getLsbD (8 + i) = true := by
          rw [BitVec.getLsbD_not]; simp only [h8, decide_true, Bool.true_and]
          have : ∀ j, j < 24 → (!(255#32).getLsbD (8 + j)) = true := by decide
          exact this i (by omega)
        rw [this, Bool.and_true]
      · rw [BitVec.getLsbD_of_ge t _ (by omega)]; simp
    · intro i hi
      rw [BitVec.getLsbD_and]
      have : ∀ j, j < 8 → (~~~255#32).getLsbD j = false := by decide
      rw [this i hi, Bool.and_false]
  conv => lhs; rw [e]
  rw [← BitVec.xor_assoc, stps_xor, hs]

/-- four bytes, the lowest first, are one number laid over the register -/
theorem bv_byte (t : BitVec 32) (c : Int) (h : c = uv t % 256) : bv c = t &&& 255#32 := by
  subst h
  apply BitVec.eq_of_toNat_eq
  unfold bv uv
  rw [BitVec.toNat_and, BitVec.toNat_ofNat, BitVec.toNat_ofNat]
  have e2 : (255 % 2 ^ 32) = 2 ^ 8 - 1 := by decide
  rw [e2, Nat.and_two_pow_sub_one_eq_mod]
  omega
theorem upd_byte (r t : BitVec 32) (c : Int) (h : c = uv t % 256) : upd r c = stps 8 (r ^^^ t) ^^^ (t >>> 8) := by
  unfold upd; rw [stps_low r t, bv_byte t c h, BitVec.xor_assoc, BitVec.xor_self, BitVec.xor_zero]
theorem shr_uv (t : BitVec 32) (k : Nat) : uv (t >>> k) = uv t / 2 ^ k := by
  unfold uv; rw [BitVec.toNat_ushiftRight, Nat.shiftRight_eq_div_pow]; simp
theorem feed_word (r t : BitVec 32) : feed r [uv t % 256, uv t / 2 ^ 8 % 256, uv t / 2 ^ 16 % 256, uv t / 2 ^ 24 % 256] = stps 32 (r ^^^ t) := by
  have s1 : upd r (uv t % 256) = stps 8 (r ^^^ t) ^^^ (t >>> 8) := upd_byte r t _ rfl
  have s2 : upd (stps 8 (r ^^^ t) ^^^ (t >>> 8)) (uv t / 2 ^ 8 % 256) = stps 16 (r ^^^ t) ^^^ (t >>> 16) := by
    rw [upd_byte _ (t >>> 8) _ (by rw [shr_uv]), BitVec.xor_assoc (stps 8 (r ^^^ t)), BitVec.xor_self, BitVec.xor_zero, ← stps_add, ← BitVec.shiftRight_add]
  have s3 : upd (stps 16 (r ^^^ t) ^^^ (t >>> 16)) (uv t / 2 ^ 16 % 256) = stps 24 (r ^^^ t) ^^^ (t >>> 24) := by
    rw [upd_byte _ (t >>> 16) _ (by rw [shr_uv]), BitVec.xor_assoc (stps 16 (r ^^^ t)), BitVec.xor_self, BitVec.xor_zero, ← stps_add, ← BitVec.shiftRight_add]
  have s4 : upd (stps 24 (r ^^^ t) ^^^ (t >>> 24)) (uv t / 2 ^ 24 % 256) = stps 32 (r ^^^ t) ^^^ (t >>> 32) := by
    rw [upd_byte _ (t >>> 24) _ (by rw [shr_uv]), BitVec.xor_assoc (stps 24 (r ^^^ t)), BitVec.xor_self, BitVec.xor_zero, ← stps_add, ← BitVec.shiftRight_add]
  have z : t >>> 32 = 0#32 := by
    apply BitVec.eq_of_getLsbD_eq; intro i hi; rw [BitVec.getLsbD_ushiftRight, BitVec.getLsbD_of_ge t _ (by omega)]; simp
  rw [feed_cons, feed_cons, feed_cons, feed_cons, feed_nil, s1, s2, s3, s4, z, BitVec.xor_zero]

/-- bytes with their own sum behind -/
theorem sumS_own (zs : List Int) (s : BitVec 32) (hs : s = sumS zs) : sumS (zs ++ [uv s % 256, uv s / 2 ^ 8 % 256, uv s / 2 ^ 16 % 256, uv s / 2 ^ 24 % 256]) = stps 32 ones ^^^ ones := by
  unfold sumS addS
  rw [feed_append, feed_word]
  congr 2
  have : feed (0#32 ^^^ ones) zs = s ^^^ ones := by rw [hs]; unfold sumS addS; rw [xor_ones_ones]
  rw [this, BitVec.xor_assoc, BitVec.xor_comm ones, ← BitVec.xor_assoc, BitVec.xor_self, BitVec.zero_xor]
theorem own_num : uv (stps 32 ones ^^^ ones) = 1214729159 := by decide +kernel

/-- what two texts laid over one another are fed -/
def lay (xs ys : List Int) : List Int := List.zipWith (fun a b => bits .xor .u8 a b) xs ys
def Bytes (zs : List Int) : Prop := ∀ c ∈ zs, 0 ≤ c ∧ c ≤ 255
theorem lay_bytes (xs ys : List Int) (hx : Bytes xs) (hy : Bytes ys) : Bytes (lay xs ys) := by
  intro c hc
  unfold lay at hc
  induction xs generalizing ys with
  | nil => simp at hc
  | cons a xs ih =>
    rcases ys with _ | ⟨b, ys⟩
    · simp at hc
    · simp only [List.zipWith_cons_cons, List.mem_cons] at hc
      have ha := hx a (by simp)
      have hb := hy b (by simp)
      rcases hc with rfl | hc
      · exact xor8_bd a b ha.1 ha.2 hb.1 hb.2
      · exact ih ys (fun c hc => hx c (by simp [hc])) (fun c hc => hy c (by simp [hc])) hc
theorem feed_lay (r s : BitVec 32) (xs ys : List Int) (hl : xs.length = ys.length) (hx : Bytes xs) (hy : Bytes ys) : feed (r ^^^ s) (lay xs ys) = feed r xs ^^^ feed s ys := by
  induction xs generalizing ys r s with
  | nil => rcases ys with _ | ⟨b, ys⟩ <;> simp_all [lay, feed]
  | cons a xs ih =>
    rcases ys with _ | ⟨b, ys⟩
    · simp at hl
    · have ha := hx a (by simp)
      have hb := hy b (by simp)
      show feed (upd (r ^^^ s) (bits .xor .u8 a b)) (lay xs ys) = feed (upd r a) xs ^^^ feed (upd s b) ys
      have : upd (r ^^^ s) (bits .xor .u8 a b) = upd r a ^^^ upd s b := by
        unfold upd; rw [bv_xor a b ha.1 ha.2 hb.1 hb.2, ← stps_xor]; congr 1; ac_rfl
      rw [this]
      exact ih _ _ ys (by simpa using hl) (fun c hc => hx c (by simp [hc])) (fun c hc => hy c (by simp [hc]))

/-- three texts of one length, laid over one another -/
theorem sumS_lay3 (xs ys zs : List Int) (h1 : xs.length = ys.length) (h2 : ys.length = zs.length) (hx : Bytes xs) (hy : Bytes ys) (hz : Bytes zs) :
    sumS (lay (lay xs ys) zs) = sumS xs ^^^ sumS ys ^^^ sumS zs := by
  have hl : (lay xs ys).length = zs.length := by unfold lay; simp; omega
  have e : (0#32 ^^^ ones) = (ones ^^^ ones) ^^^ ones := by simp
  unfold sumS addS
  rw [e, feed_lay _ _ _ _ hl (lay_bytes _ _ hx hy) hz, feed_lay _ _ _ _ h1 hx hy]
  have z : (ones ^^^ ones) ^^^ ones = ones := by simp
  rw [z]
  generalize feed ones xs = a
  generalize feed ones ys = b
  generalize feed ones zs = c
  rw [show a ^^^ ones ^^^ (b ^^^ ones) ^^^ (c ^^^ ones) = (a ^^^ b ^^^ c ^^^ ones) ^^^ (ones ^^^ ones) by ac_rfl, BitVec.xor_self, BitVec.xor_zero]

/-- texts that are unlike in four neighbouring bytes -/
theorem sumS_burst (p q m m' : List Int) (t : BitVec 32) (ht : t ≠ 0#32) (hm : Bytes m) (hlen : m.length = 4)
    (hm' : m' = lay m [uv t % 256, uv t / 2 ^ 8 % 256, uv t / 2 ^ 16 % 256, uv t / 2 ^ 24 % 256]) :
    sumS (p ++ m ++ q) ≠ sumS (p ++ m' ++ q) := by
  intro h
  have hb : Bytes [uv t % 256, uv t / 2 ^ 8 % 256, uv t / 2 ^ 16 % 256, uv t / 2 ^ 24 % 256] := by
    intro c hc
    simp only [List.mem_cons, List.not_mem_nil, or_false] at hc
    rcases hc with rfl | rfl | rfl | rfl <;> omega
  unfold sumS addS at h
  rw [feed_append, feed_append, feed_append, feed_append] at h
  generalize feed (0#32 ^^^ ones) p = r at h
  have e : feed r m' = feed r m ^^^ stps 32 t := by
    have w := feed_word 0#32 t
    rw [BitVec.zero_xor] at w
    rw [hm', ← w, ← feed_lay r 0#32 m _ (by rw [hlen]; rfl) hm hb, BitVec.xor_zero]
  rw [e, feed_xor] at h
  have h2 := congrArg (fun z => z ^^^ ones ^^^ feed (feed r m) q) h
  simp only [xor_ones_ones, BitVec.xor_self] at h2
  rw [BitVec.xor_comm (feed (feed r m) q), BitVec.xor_assoc, BitVec.xor_self, BitVec.xor_zero] at h2
  exact ht (stps_eq_zero _ _ (stps_eq_zero _ _ h2.symm))

/-! ### a linear map, as its values at the 32 bits -/
def Linear (L : BitVec 32 → BitVec 32) : Prop := ∀ x y, L (x ^^^ y) = L x ^^^ L y
theorem Linear.zero {L : BitVec 32 → BitVec 32} (h : Linear L) : L 0#32 = 0#32 := by
  have := h 0#32 0#32
  rw [BitVec.xor_zero] at this
  rw [BitVec.xor_self] at this
  exact this
theorem linear_stps (n : Nat) : Linear (stps n) := fun x y => stps_xor n x y
def bit (i : Nat) : BitVec 32 := (1#32) <<< i
/-- the lowest k bits of r -/
def low (r : BitVec 32) (k : Nat) : BitVec 32 := BitVec.ofNat 32 (r.toNat % 2 ^ k)
theorem low_bit (r : BitVec 32) (k i : Nat) (hi : i < 32) : (low r k).getLsbD i = (decide (i < k) && r.getLsbD i) := by
  unfold low
  rw [BitVec.getLsbD_ofNat]
  simp [hi, Nat.testBit_mod_two_pow, BitVec.getLsbD]
theorem low_zero (r : BitVec 32) : low r 0 = 0#32 := by
  apply BitVec.eq_of_getLsbD_eq; intro i hi; rw [low_bit _ _ _ hi]; simp
theorem low_all (r : BitVec 32) : low r 32 = r := by
  apply BitVec.eq_of_getLsbD_eq; intro i hi; rw [low_bit _ _ _ hi]; simp [hi]
theorem bit_bit (i k : Nat) (hi : i < 32) (_hk : k < 32) : (bit k).getLsbD i = decide (i = k) := by
  unfold bit
  rw [BitVec.getLsbD_shiftLeft, BitVec.getLsbD_one]
  by_cases h : i = k
  · subst h; simp [hi]
  · by_cases h2 : i < k <;> simp [hi, h, h2]
    omega
theorem low_succ (r : BitVec 32) (k : Nat) (hk : k < 32) : low r (k + 1) = low r k ^^^ (if r.getLsbD k then bit k else 0#32) := by
  apply BitVec.eq_of_getLsbD_eq; intro i hi
  rw [BitVec.getLsbD_xor, low_bit _ _ _ hi, low_bit _ _ _ hi]
  by_cases hb : r.getLsbD k = true
  · rw [if_pos hb, bit_bit i k hi hk]
    by_cases h : i = k
    · subst h; simp [hb]
    · by_cases h2 : i < k
      · simp [h, h2, show i < k + 1 by omega]
      · simp [h, h2, show ¬ i < k + 1 by omega]
  · rw [if_neg hb]
    by_cases h : i = k
    · subst h; simp at hb; simp [hb]
    · by_cases h2 : i < k
      · simp [h2, show i < k + 1 by omega]
      · simp [h2, show ¬ i < k + 1 by omega]
theorem linear_low_yes {L : BitVec 32 → BitVec 32} (h : Linear L) (r : BitVec 32) (k : Nat) (hk : k < 32) (hb : r.getLsbD k = true) : L (low r (k + 1)) = L (low r k) ^^^ L (bit k) := by
  rw [low_succ r k hk, if_pos hb, h]
theorem linear_low_no {L : BitVec 32 → BitVec 32} (r : BitVec 32) (k : Nat) (hk : k < 32) (hb : r.getLsbD k = false) : L (low r (k + 1)) = L (low r k) := by
  rw [low_succ r k hk, hb]; simp
theorem bit_test (r : BitVec 32) (k : Nat) : r.getLsbD k = true ↔ uv r / 2 ^ k % 2 = 1 := by
  unfold uv BitVec.getLsbD
  rw [Nat.testBit_eq_decide_div_mod_eq]
  simp
  have : ((r.toNat : Int) / 2 ^ k) = ((r.toNat / 2 ^ k : Nat) : Int) := by simp
  omega
theorem uv_bit (k : Nat) (hk : k < 32) : uv (bit k) = 2 ^ k := by
  have : ∀ k, k < 32 → uv (bit k) = 2 ^ k := by decide
  exact this k hk
end Go.Proofs.YtnppomiggajhnaaGreatDoor.Crc

namespace Go.Proofs.YtnppomiggajhnaaGreatDoor.Rc
open Fld (Bytes val)

/-- a number's four bytes, the highest first -/
def four (n : Nat) : List Int := [((n / 16777216 % 256 : Nat) : Int), ((n / 65536 % 256 : Nat) : Int), ((n / 256 % 256 : Nat) : Int), ((n % 256 : Nat) : Int)]
theorem four_len (n : Nat) : (four n).length = 4 := rfl
theorem four_bytes (n : Nat) : Bytes (four n) := by
  unfold four
  exact Fld.bytes_cons (by omega) (by omega) (Fld.bytes_cons (by omega) (by omega) (Fld.bytes_cons (by omega) (by omega) (Fld.bytes_cons (by omega) (by omega) Fld.bytes_nil)))
theorem val_four (n : Nat) (h : n < 4294967296) : val (four n) = n := by
  simp only [val, four, List.foldl_cons, List.foldl_nil, Int.toNat_natCast]
  omega
theorem four_val (l : List Int) (hl : l.length = 4) (hb : Bytes l) : four (val l) = l := by
  match l, hl with
  | [a, b, c, d], _ =>
    have ha := hb a (by simp)
    have hb' := hb b (by simp)
    have hc := hb c (by simp)
    have hd := hb d (by simp)
    simp only [val, four, List.foldl_cons, List.foldl_nil, List.cons.injEq, and_true]
    refine ⟨by omega, by omega, by omega, by omega⟩
theorem val_lt4 (l : List Int) (hl : l.length = 4) (hb : Bytes l) : val l < 4294967296 := by
  have := Fld.val_lt 4 l hl hb
  simpa using this

/-- the sum that stands in the record of t -/
def sumN (t : List Int) : Nat := (Crc.sumS (four t.length ++ t)).toNat
theorem sumN_lt (t : List Int) : sumN t < 4294967296 := (Crc.sumS _).isLt
def recd (t : List Int) : List Int := four t.length ++ (four (sumN t) ++ t)
theorem recd_len (t : List Int) : (recd t).length = 8 + t.length := by simp [recd, four]; omega
theorem recd_bytes {t : List Int} (h : Bytes t) : Bytes (recd t) := Fld.bytes_append (four_bytes _) (Fld.bytes_append (four_bytes _) h)

/-- what the record holds with which zs begins -/
def body (zs : List Int) : List Int := (zs.drop 8).take (val (zs.take 4))
def isRec (zs : List Int) : Prop := 8 ≤ zs.length ∧ val (zs.take 4) ≤ 65536 ∧ 8 + val (zs.take 4) ≤ zs.length ∧ val ((zs.drop 4).take 4) = (Crc.addS (Crc.sumS (zs.take 4)) (body zs)).toNat
instance (zs : List Int) : Decidable (isRec zs) := by unfold isRec; infer_instance
def first (zs : List Int) : Option (List Int) := if isRec zs then some (body zs) else none
theorem first_none {zs : List Int} (h : ¬ isRec zs) : first zs = none := by unfold first; rw [if_neg h]
theorem first_is {zs : List Int} (h : isRec zs) : first zs = some (body zs) := by unfold first; rw [if_pos h]

theorem head4 (n : Nat) (r : List Int) : (four n ++ r).take 4 = four n := by simp [four]
theorem drop4 (n : Nat) (r : List Int) : (four n ++ r).drop 4 = r := by simp [four]
theorem first_recd (t rest : List Int) (ht : t.length ≤ 65536) : first (recd t ++ rest) = some t := by
  have e1 : (recd t ++ rest).take 4 = four t.length := by rw [recd, List.append_assoc]; exact head4 _ _
  have e2 : (recd t ++ rest).drop 4 = four (sumN t) ++ (t ++ rest) := by rw [recd, List.append_assoc, drop4, List.append_assoc]
  have e3 : (recd t ++ rest).drop 8 = t ++ rest := by rw [show 8 = 4 + 4 from rfl, ← List.drop_drop, e2, drop4]
  have e4 : val (four t.length) = t.length := val_four _ (by omega)
  have e5 : body (recd t ++ rest) = t := by rw [body, e3, e1, e4]; simp
  have hr : isRec (recd t ++ rest) := by
    refine ⟨by rw [List.length_append, recd_len]; omega, by rw [e1, e4]; exact ht, by rw [e1, e4, List.length_append, recd_len]; omega, ?_⟩
    rw [e5, e2, head4, e1, val_four _ (sumN_lt t), ← Crc.sumS_append]
    rfl
  rw [first_is hr, e5]
theorem isRec_split {zs : List Int} (hb : Bytes zs) (h : isRec zs) : zs = recd (body zs) ++ zs.drop (8 + (body zs).length) ∧ (body zs).length ≤ 65536 ∧ (body zs).length = val (zs.take 4) := by
  obtain ⟨h1, h2, h3, h4⟩ := h
  have hl : (body zs).length = val (zs.take 4) := by rw [body, List.length_take, List.length_drop]; omega
  have f1 : four (body zs).length = zs.take 4 := by
    rw [hl]; exact four_val _ (by rw [List.length_take]; omega) (Fld.bytes_take hb 4)
  have f2 : four (sumN (body zs)) = (zs.drop 4).take 4 := by
    rw [sumN, f1, Crc.sumS_append, ← h4]
    exact four_val _ (by rw [List.length_take, List.length_drop]; omega) (Fld.bytes_take (Fld.bytes_drop hb 4) 4)
  refine ⟨?_, by omega, hl⟩
  rw [recd, f1, f2, hl]
  conv => lhs; rw [← List.take_append_drop 4 zs]
  rw [List.append_assoc, List.append_assoc]
  congr 1
  conv => lhs; rw [← List.take_append_drop 4 (zs.drop 4)]
  congr 1
  have e8 : (zs.drop 4).drop 4 = zs.drop 8 := by rw [List.drop_drop]
  have e9 : zs.drop (8 + val (zs.take 4)) = (zs.drop 8).drop (val (zs.take 4)) := by rw [List.drop_drop]
  rw [e8, body, e9]
  exact (List.take_append_drop _ _).symm
theorem first_some {zs t : List Int} (hb : Bytes zs) (h : first zs = some t) : zs = recd t ++ zs.drop (8 + t.length) ∧ t.length ≤ 65536 := by
  unfold first at h
  by_cases hr : isRec zs
  · rw [if_pos hr] at h
    obtain rfl := Option.some.inj h
    exact ⟨(isRec_split hb hr).1, (isRec_split hb hr).2.1⟩
  · rw [if_neg hr] at h; cases h

/-- records one behind the other -/
def recs : List (List Int) → List Int
  | [] => []
  | t :: r => recd t ++ recs r
theorem recs_append (xs ys : List (List Int)) : recs (xs ++ ys) = recs xs ++ recs ys := by
  induction xs with
  | nil => rfl
  | cons t r ih => rw [List.cons_append, recs, recs, ih, List.append_assoc]
theorem recs_snoc (xs : List (List Int)) (t : List Int) : recs (xs ++ [t]) = recs xs ++ recd t := by rw [recs_append, recs, recs, List.append_nil]
theorem recs_take (ls : List (List Int)) (k : Nat) (h : k < ls.length) : recs (ls.take (k + 1)) = recs (ls.take k) ++ recd (ls.getD k []) := by
  rw [List.take_succ_eq_append_getElem h, recs_snoc]; simp [h]
theorem recs_drop (ls : List (List Int)) (k : Nat) (h : k < ls.length) : recs (ls.drop k) = recd (ls.getD k []) ++ recs (ls.drop (k + 1)) := by
  rw [List.drop_eq_getElem_cons h, recs]; simp [h]
theorem recs_split (ls : List (List Int)) (k : Nat) : recs ls = recs (ls.take k) ++ recs (ls.drop k) := by rw [← recs_append, List.take_append_drop]
theorem recs_ge (ls : List (List Int)) : 8 * ls.length ≤ (recs ls).length := by
  induction ls with
  | nil => simp [recs]
  | cons t r ih => rw [recs, List.length_append, recd_len, List.length_cons]; omega
def Small (ls : List (List Int)) : Prop := ∀ t ∈ ls, t.length ≤ 65536
theorem small_nil : Small [] := fun t ht => by simp at ht
theorem small_snoc {ls : List (List Int)} {t : List Int} (h : Small ls) (ht : t.length ≤ 65536) : Small (ls ++ [t]) := by
  intro u hu
  rcases List.mem_append.1 hu with hu | hu
  · exact h u hu
  · rw [List.mem_singleton] at hu; rw [hu]; exact ht
theorem small_take {ls : List (List Int)} (h : Small ls) (k : Nat) : Small (ls.take k) := fun t ht => h t (List.mem_of_mem_take ht)
theorem small_drop {ls : List (List Int)} (h : Small ls) (k : Nat) : Small (ls.drop k) := fun t ht => h t (List.mem_of_mem_drop ht)

/-- the contents that a scan of zs tells -/
def Sc (zs : List Int) (ts : List (List Int)) : Prop := ∃ rest, zs = recs ts ++ rest ∧ Small ts ∧ first rest = none
theorem recd_inj (t u r s : List Int) (ht : t.length ≤ 65536) (hu : u.length ≤ 65536) (h : recd t ++ r = recd u ++ s) : t = u ∧ r = s := by
  have h1 := first_recd t r ht
  rw [h, first_recd u s hu] at h1
  obtain rfl := Option.some.inj h1
  exact ⟨rfl, List.append_cancel_left h⟩
/-- whoever begins with records, and is told: the records come first -/
theorem ahead : ∀ (ls ts : List (List Int)) (r s : List Int), Small ls → Small ts → first s = none → recs ls ++ r = recs ts ++ s → ∃ us, ts = ls ++ us ∧ r = recs us ++ s
  | [], ts, r, s, _, _, _, h => ⟨ts, rfl, by simpa [recs] using h⟩
  | t :: ls, [], r, s, hl, _, hs, h => by
    have h' : recd t ++ (recs ls ++ r) = s := by simpa [recs] using h
    rw [← h', first_recd t _ (hl t (by simp))] at hs
    cases hs
  | t :: ls, u :: ts, r, s, hl, ht, hs, h => by
    rw [recs, recs, List.append_assoc, List.append_assoc] at h
    obtain ⟨rfl, h2⟩ := recd_inj _ _ _ _ (hl t (by simp)) (ht u (by simp)) h
    obtain ⟨us, rfl, e⟩ := ahead ls ts r s (fun x hx => hl x (by simp [hx])) (fun x hx => ht x (by simp [hx])) hs h2
    exact ⟨us, rfl, e⟩
theorem Sc.uniq {zs : List Int} {ts us : List (List Int)} (h : Sc zs ts) (k : Sc zs us) : ts = us := by
  obtain ⟨r, e1, s1, f1⟩ := h
  obtain ⟨s, e2, s2, f2⟩ := k
  obtain ⟨x, rfl, e3⟩ := ahead ts us r s s1 s2 f2 (e1.symm.trans e2)
  cases x with
  | nil => simp
  | cons t x =>
    rw [e3, recs, List.append_assoc, first_recd t _ (s2 t (by simp))] at f1
    cases f1
theorem Sc.of {ts : List (List Int)} {rest : List Int} (hs : Small ts) (hf : first rest = none) : Sc (recs ts ++ rest) ts := ⟨rest, rfl, hs, hf⟩
theorem Sc.all {ts : List (List Int)} (hs : Small ts) : Sc (recs ts) ts := ⟨[], by simp, hs, first_none (fun h => by have := h.1; simp at this)⟩
theorem Sc.used {zs : List Int} {ts : List (List Int)} (h : Sc zs ts) : zs.take (recs ts).length = recs ts ∧ (recs ts).length ≤ zs.length := by
  obtain ⟨r, rfl, _, _⟩ := h
  exact ⟨by simp, by rw [List.length_append]; omega⟩

/-- a record that is cut off -/
theorem first_cut (t : List Int) (m : Nat) (ht : t.length ≤ 65536) (h : m < (recd t).length) : first ((recd t).take m) = none := by
  rw [recd_len] at h
  apply first_none
  rintro ⟨h1, h2, h3, _⟩
  rw [List.length_take, recd_len] at h1 h3
  have e : ((recd t).take m).take 4 = four t.length := by rw [List.take_take, Nat.min_eq_left (by omega), recd, head4]
  rw [e, val_four _ (by omega)] at h3
  omega
/-- a record of whose content four neighbouring bytes were turned -/
theorem first_turned (p m q m' rest : List Int) (t : BitVec 32) (ht : t ≠ 0#32) (hb : Bytes m) (hlen : m.length = 4)
    (hm' : m' = Crc.lay m [Crc.uv t % 256, Crc.uv t / 2 ^ 8 % 256, Crc.uv t / 2 ^ 16 % 256, Crc.uv t / 2 ^ 24 % 256]) (hl : (p ++ m ++ q).length ≤ 65536) :
    first (four (p ++ m ++ q).length ++ (four (sumN (p ++ m ++ q)) ++ ((p ++ m' ++ q) ++ rest))) = none := by
  have hlm : m'.length = 4 := by rw [hm', Crc.lay]; simp [hlen]
  have hll : (p ++ m' ++ q).length = (p ++ m ++ q).length := by simp [hlen, hlm]
  apply first_none
  rintro ⟨h1, h2, h3, h4⟩
  have e1 := head4 (p ++ m ++ q).length (four (sumN (p ++ m ++ q)) ++ ((p ++ m' ++ q) ++ rest))
  have e2 := drop4 (p ++ m ++ q).length (four (sumN (p ++ m ++ q)) ++ ((p ++ m' ++ q) ++ rest))
  have e3 : (four (p ++ m ++ q).length ++ (four (sumN (p ++ m ++ q)) ++ ((p ++ m' ++ q) ++ rest))).drop 8 = (p ++ m' ++ q) ++ rest := by
    rw [show 8 = 4 + 4 from rfl, ← List.drop_drop, e2, drop4]
  have e5 : body (four (p ++ m ++ q).length ++ (four (sumN (p ++ m ++ q)) ++ ((p ++ m' ++ q) ++ rest))) = p ++ m' ++ q := by
    rw [body, e3, e1, val_four _ (by omega), ← hll, List.take_left']; rfl
  rw [e5, e1, e2, head4, val_four _ (sumN_lt _), ← Crc.sumS_append, sumN] at h4
  have h5 : Crc.sumS (four (p ++ m ++ q).length ++ (p ++ m ++ q)) = Crc.sumS (four (p ++ m ++ q).length ++ (p ++ m' ++ q)) := BitVec.eq_of_toNat_eq h4
  generalize four (p ++ m ++ q).length = f at h5
  have := Crc.sumS_burst (f ++ p) q m m' t ht hb hlen hm'
  apply this
  rw [show f ++ p ++ m ++ q = f ++ (p ++ m ++ q) by simp, show f ++ p ++ m' ++ q = f ++ (p ++ m' ++ q) by simp]
  exact h5
end Go.Proofs.YtnppomiggajhnaaGreatDoor.Rc

namespace Go.Proofs.YtnppomiggajhnaaGreatDoor.Wl
open Go.Proofs.YtnppomiggajhnaaGreatDoor.Fld Go.Proofs.YtnppomiggajhnaaGreatDoor.Rc

def MI : Nat := 1099511627776
structure E where
  idx : Nat
  term : Nat
  kind : Nat
  data : List Int
def E.Ok (e : E) : Prop := 1 ≤ e.idx ∧ e.idx ≤ MI ∧ e.term ≤ MI ∧ e.kind ≤ 7 ∧ e.data.length ≤ 4096 ∧ Bytes e.data
/-- what a record does -/
inductive Ch where
  | head (n i : Nat)
  | entry (e : E)
  | cut (i : Nat)
  | reset (i : Nat)

/-! ### contents -/
def rI (b : List Int) (low high : Nat) : Option (Nat × List Int) :=
  match cutInt b with
  | some (v, r) => if (low : Int) ≤ v ∧ v ≤ (high : Int) then some (v.toNat, r) else none
  | none => none
def rT (b : List Int) (most : Nat) : Option (List Int × List Int) :=
  match cutText b with
  | some (t, r) => if t.length ≤ most then some (t, r) else none
  | none => none
def decH (r : List Int) : Option Ch :=
  match rI r 1 99999999 with
  | none => none
  | some (n, r1) => match rI r1 1 (MI + 1) with
    | none => none
    | some (i, r2) => if r2 = [] then some (.head n i) else none
def decE (r : List Int) : Option Ch :=
  match rI r 1 MI with
  | none => none
  | some (i, r1) => match rI r1 0 MI with
    | none => none
    | some (t, r2) => match rI r2 0 7 with
      | none => none
      | some (k, r3) => match rT r3 4096 with
        | none => none
        | some (d, r4) => if r4 = [] then some (.entry ⟨i, t, k, d⟩) else none
def decI (k : Nat) (r : List Int) : Option Ch :=
  match rI r 1 (MI + 1) with
  | none => none
  | some (i, r1) => if r1 = [] then some (if k = 2 then .cut i else .reset i) else none
def dec (b : List Int) : Option Ch :=
  match rI b 0 3 with
  | none => none
  | some (k, r) => if k = 0 then decH r else if k = 1 then decE r else decI k r
def enc (l : List Nat) : List Int := l.flatMap code
def chC : Ch → List Int
  | .head n i => enc [0, n, i]
  | .entry e => enc [1, e.idx, e.term, e.kind] ++ textC e.data
  | .cut i => enc [2, i]
  | .reset i => enc [3, i]
def Ch.Ok : Ch → Prop
  | .head n i => 1 ≤ n ∧ n ≤ 99999999 ∧ 1 ≤ i ∧ i ≤ MI + 1
  | .entry e => e.Ok
  | .cut i => 1 ≤ i ∧ i ≤ MI + 1
  | .reset i => 1 ≤ i ∧ i ≤ MI + 1
theorem rI_code (n low high : Nat) (r : List Int) (h1 : low ≤ n) (h2 : n ≤ high) (h3 : n ≤ 9223372036854775807) : rI (code n ++ r) low high = some (n, r) := by
  have := cutInt_code (n : Int) (by omega) (by omega) r
  rw [intC_pos _ (by omega), Int.toNat_natCast] at this
  unfold rI
  rw [this]
  simp only
  rw [if_pos ⟨by omega, by omega⟩, Int.toNat_natCast]
theorem rT_code (d : List Int) (most : Nat) (r : List Int) (h : d.length ≤ most) (h2 : d.length ≤ 4096) : rT (textC d ++ r) most = some (d, r) := by
  unfold rT
  rw [cutText_code d (by omega) r]
  simp only
  rw [if_pos h]
theorem dec_chC (c : Ch) (h : c.Ok) : dec (chC c) = some c := by
  cases c with
  | head n i =>
    obtain ⟨h1, h2, h3, h4⟩ := h
    unfold MI at h4
    simp only [chC, enc, List.flatMap_cons, List.flatMap_nil, List.append_nil]
    unfold dec
    rw [rI_code 0 0 3 _ (by omega) (by omega) (by omega)]
    simp only [if_true]
    unfold decH
    rw [rI_code n 1 _ _ h1 h2 (by omega)]
    simp only
    have := rI_code i 1 (MI + 1) [] h3 (by unfold MI; omega) (by omega)
    rw [List.append_nil] at this
    rw [this]
    simp
  | entry e =>
    obtain ⟨h1, h2, h3, h4, h5, h6⟩ := h
    unfold MI at h2 h3
    simp only [chC, enc, List.flatMap_cons, List.flatMap_nil, List.append_nil, List.append_assoc]
    unfold dec
    rw [rI_code 1 0 3 _ (by omega) (by omega) (by omega)]
    simp only [show ¬ (1 : Nat) = 0 by omega, if_false, if_true]
    unfold decE
    rw [rI_code e.idx 1 _ _ h1 (by unfold MI; omega) (by omega)]
    simp only
    rw [rI_code e.term 0 _ _ (by omega) (by unfold MI; omega) (by omega)]
    simp only
    rw [rI_code e.kind 0 _ _ (by omega) h4 (by omega)]
    simp only
    have := rT_code e.data 4096 [] h5 h5
    rw [List.append_nil] at this
    rw [this]
    simp
  | cut i =>
    obtain ⟨h1, h2⟩ := h
    unfold MI at h2
    simp only [chC, enc, List.flatMap_cons, List.flatMap_nil, List.append_nil]
    unfold dec
    rw [rI_code 2 0 3 _ (by omega) (by omega) (by omega)]
    simp only [show ¬ (2 : Nat) = 0 by omega, show ¬ (2 : Nat) = 1 by omega, if_false]
    unfold decI
    have := rI_code i 1 (MI + 1) [] h1 (by unfold MI; omega) (by omega)
    rw [List.append_nil] at this
    rw [this]
    simp
  | reset i =>
    obtain ⟨h1, h2⟩ := h
    unfold MI at h2
    simp only [chC, enc, List.flatMap_cons, List.flatMap_nil, List.append_nil]
    unfold dec
    rw [rI_code 3 0 3 _ (by omega) (by omega) (by omega)]
    simp only [show ¬ (3 : Nat) = 0 by omega, show ¬ (3 : Nat) = 1 by omega, if_false]
    unfold decI
    have := rI_code i 1 (MI + 1) [] h1 (by unfold MI; omega) (by omega)
    rw [List.append_nil] at this
    rw [this]
    simp
theorem rI_ok {b : List Int} {low high n : Nat} {r : List Int} (h : rI b low high = some (n, r)) : low ≤ n ∧ n ≤ high := by
  unfold rI at h
  split at h
  · split at h
    · rename_i hc
      cases h
      omega
    · cases h
  · cases h
theorem bytes_cutNum {b : List Int} (hb : Bytes b) {n : Nat} {r : List Int} (h : cutNum b = some (n, r)) : Bytes r := by
  cases b with
  | nil => cases h
  | cons c l =>
    replace h : (if okD l c.toNat then some (val (l.take c.toNat), l.drop c.toNat) else none) = some (n, r) := h
    split at h
    · cases h
      exact bytes_drop (fun x hx => hb x (by simp [hx])) _
    · cases h
theorem bytes_rI {b : List Int} (hb : Bytes b) {low high n : Nat} {r : List Int} (h : rI b low high = some (n, r)) : Bytes r := by
  have hl : ∀ l : List Int, ∀ c, b = c :: l → Bytes l := fun l c e => fun x hx => hb x (by rw [e]; simp [hx])
  unfold rI at h
  cases b with
  | nil => simp [cutInt] at h
  | cons c l =>
    have hl := hl l c rfl
    split at h
    · rename_i v r' hc
      split at h
      · cases h
        replace hc : (if c ≤ 8 then if okD l c.toNat ∧ val (l.take c.toNat) ≤ 9223372036854775807 then some ((val (l.take c.toNat) : Int), l.drop c.toNat) else none
          else if 16 < c ∧ okD l (c - 16).toNat ∧ val (l.take (c - 16).toNat) ≤ 9223372036854775808 then some (-(val (l.take (c - 16).toNat) : Int), l.drop (c - 16).toNat) else none) = some (v, r) := hc
        split at hc
        · split at hc
          · cases hc; exact bytes_drop hl _
          · cases hc
        · split at hc
          · cases hc; exact bytes_drop hl _
          · cases hc
      · cases h
    · cases h
theorem rT_ok {b : List Int} (hb : Bytes b) {most : Nat} {d r : List Int} (h : rT b most = some (d, r)) : d.length ≤ most ∧ Bytes d := by
  unfold rT at h
  split at h
  · rename_i t r' hc
    split at h
    · cases h
      refine ⟨by assumption, ?_⟩
      unfold cutText at hc
      split at hc
      · cases hc
      · rename_i n r0 hn
        split at hc
        · cases hc
          exact bytes_take (bytes_cutNum hb hn) _
        · cases hc
    · cases h
  · cases h
/-- what was read may be -/
theorem dec_ok {b : List Int} (hb : Bytes b) {c : Ch} (h : dec b = some c) : c.Ok := by
  unfold dec at h
  split at h
  · cases h
  · rename_i k r hk
    have hr := bytes_rI hb hk
    split at h
    · unfold decH at h
      split at h
      · cases h
      · rename_i n r1 hn
        split at h
        · cases h
        · rename_i i r2 hi
          split at h
          · cases h
            exact ⟨(rI_ok hn).1, (rI_ok hn).2, (rI_ok hi).1, (rI_ok hi).2⟩
          · cases h
    · split at h
      · unfold decE at h
        split at h
        · cases h
        · rename_i i r1 h1
          split at h
          · cases h
          · rename_i t r2 h2
            split at h
            · cases h
            · rename_i kd r3 h3
              split at h
              · cases h
              · rename_i d r4 h4
                split at h
                · cases h
                  have hd := rT_ok (bytes_rI (bytes_rI (bytes_rI hr h1) h2) h3) h4
                  exact ⟨(rI_ok h1).1, (rI_ok h1).2, (rI_ok h2).2, (rI_ok h3).2, hd.1, hd.2⟩
                · cases h
      · unfold decI at h
        split at h
        · cases h
        · rename_i i r1 h1
          split at h
          · split at h
            · cases h
              exact ⟨(rI_ok h1).1, (rI_ok h1).2⟩
            · cases h
              exact ⟨(rI_ok h1).1, (rI_ok h1).2⟩
          · cases h

/-! ### logs -/
structure Lg where
  base : Nat
  es : List E
def Lg.last (l : Lg) : Nat := l.base + l.es.length
def Lg.Ok (l : Lg) : Prop := l.last ≤ MI ∧ ∀ e ∈ l.es, e.Ok
def Lg.add (l : Lg) (e : E) : Lg := ⟨l.base, l.es ++ [e]⟩
def Lg.cut (l : Lg) (i : Nat) : Lg := if i ≤ l.base then ⟨i - 1, []⟩ else ⟨l.base, l.es.take (i - 1 - l.base)⟩
def Lg.restart (i : Nat) : Lg := ⟨i - 1, []⟩
theorem Lg.Ok.restart {i : Nat} (h : i ≤ MI + 1) : (Lg.restart i).Ok := ⟨by simp only [Lg.last, Lg.restart, List.length_nil]; omega, fun e he => by simp [Lg.restart] at he⟩
theorem Lg.Ok.cut {l : Lg} (h : l.Ok) {i : Nat} (hi : i ≤ MI + 1) : (l.cut i).Ok := by
  unfold Lg.cut
  split
  · exact Lg.Ok.restart hi
  · refine ⟨?_, fun e he => h.2 e (List.mem_of_mem_take he)⟩
    have := h.1
    simp only [Lg.last, List.length_take] at *
    omega
theorem Lg.Ok.add {l : Lg} (h : l.Ok) {e : E} (he : e.Ok) (hi : e.idx = l.last + 1) : (l.add e).Ok := by
  refine ⟨?_, fun x hx => ?_⟩
  · have := he.2.1
    simp only [Lg.last, Lg.add, List.length_append, List.length_cons, List.length_nil] at *
    omega
  · rcases List.mem_append.1 hx with hx | hx
    · exact h.2 x hx
    · simp at hx; rw [hx]; exact he

/-! ### the recoverable content -/
structure Sg where
  num : Nat
  next : Nat
  size : Nat
structure Ct where
  lg : Lg
  segs : List Sg
def ct0 : Ct := ⟨⟨0, []⟩, []⟩
def addSz (k : Nat) : List Sg → List Sg
  | [] => []
  | [s] => [⟨s.num, s.next, s.size + k⟩]
  | s :: t :: r => s :: addSz k (t :: r)
theorem addSz_snoc (k : Nat) (xs : List Sg) (s : Sg) : addSz k (xs ++ [s]) = xs ++ [⟨s.num, s.next, s.size + k⟩] := by
  induction xs with
  | nil => rfl
  | cons x xs ih =>
    cases xs with
    | nil => rfl
    | cons y ys =>
      show x :: addSz k (y :: ys ++ [s]) = _
      rw [ih]
      rfl
def follows (c : Ct) (n i : Nat) : Prop := match c.segs.getLast? with | none => True | some s => n = s.num + 1 ∧ i = c.lg.last + 1
instance (c : Ct) (n i : Nat) : Decidable (follows c n i) := by unfold follows; split <;> infer_instance
def acc (num : Nat) (first : Bool) (c : Ct) (b : List Int) : Option Ct :=
  match dec b with
  | none => none
  | some (.head n i) => if first = true ∧ n = num ∧ follows c n i then some ⟨if c.segs = [] then Lg.restart i else c.lg, c.segs ++ [⟨n, i, 8 + b.length⟩]⟩ else none
  | some (.entry e) => if first = false ∧ e.idx = c.lg.last + 1 then some ⟨c.lg.add e, addSz (8 + b.length) c.segs⟩ else none
  | some (.cut i) => if first = false then some ⟨c.lg.cut i, addSz (8 + b.length) c.segs⟩ else none
  | some (.reset i) => if first = false then some ⟨Lg.restart i, addSz (8 + b.length) c.segs⟩ else none
/-- a segment's records, one behind the other; were all taken? -/
def scanR (num : Nat) (first : Bool) (c : Ct) : List (List Int) → Ct × Bool
  | [] => (c, true)
  | b :: r => match acc num first c b with
    | none => (c, false)
    | some c' => scanR num false c' r
open Classical in
/-- the records with which bytes begin -/
noncomputable def recsOf (zs : List Int) : List (List Int) := if h : ∃ ts, Sc zs ts then Classical.choose h else []
theorem recsOf_eq {zs : List Int} {ts : List (List Int)} (h : Sc zs ts) : recsOf zs = ts := by
  unfold recsOf
  rw [dif_pos ⟨ts, h⟩]
  exact Sc.uniq (Classical.choose_spec (⟨ts, h⟩ : ∃ ts, Sc zs ts)) h
/-- is a segment's file taken whole? -/
def goesOn (zs : List Int) (ts : List (List Int)) (ok : Bool) : Bool := ok && !ts.isEmpty && decide (zs.length ≤ (recs ts).length)
noncomputable def scanS (c : Ct) : List (Nat × List Int) → Ct
  | [] => c
  | (n, zs) :: r => if goesOn zs (recsOf zs) (scanR n true c (recsOf zs)).2 then scanS (scanR n true c (recsOf zs)).1 r else (scanR n true c (recsOf zs)).1
/-- the segments on a disk -/
def segsOf (fs : List Dk.Fil) : List (Nat × List Int) := fs.filterMap fun f => if 0 < numOf f.1 then some (numOf f.1, f.2.1) else none
noncomputable def scanD (fs : List Dk.Fil) : Ct := scanS ct0 (segsOf fs)
def Ct.Ok (c : Ct) : Prop := c.lg.Ok ∧ ∀ s ∈ c.segs, 1 ≤ s.num ∧ s.num ≤ 99999999 ∧ 1 ≤ s.next ∧ s.next ≤ MI + 1
theorem ct0_ok : ct0.Ok := ⟨⟨by simp [Lg.last, ct0, MI], fun e he => by simp [ct0] at he⟩, fun s hs => by simp [ct0] at hs⟩
theorem addSz_mem {k : Nat} : ∀ {l : List Sg} {s : Sg}, s ∈ addSz k l → ∃ u ∈ l, s.num = u.num ∧ s.next = u.next
  | [], s, h => by simp [addSz] at h
  | [u], s, h => by simp [addSz] at h; subst h; exact ⟨u, by simp, rfl, rfl⟩
  | u :: t :: r, s, h => by
    rw [addSz, List.mem_cons] at h
    rcases h with rfl | h
    · exact ⟨s, by simp, rfl, rfl⟩
    · obtain ⟨x, hx, e⟩ := addSz_mem h
      exact ⟨x, by simp at hx ⊢; exact .inr hx, e⟩
theorem Ct.Ok.sized {c : Ct} (h : c.Ok) {l : Lg} (hl : l.Ok) (k : Nat) : (Ct.mk l (addSz k c.segs)).Ok := by
  refine ⟨hl, fun s hs => ?_⟩
  obtain ⟨u, hu, e1, e2⟩ := addSz_mem hs
  rw [e1, e2]
  exact h.2 u hu
theorem acc_ok {num : Nat} {first : Bool} {c c' : Ct} {b : List Int} (hb : Bytes b) (hc : c.Ok) (h : acc num first c b = some c') : c'.Ok := by
  unfold acc at h
  split at h
  · cases h
  · rename_i n i hd
    have hk := dec_ok hb hd
    split at h
    · cases h
      refine ⟨?_, fun s hs => ?_⟩
      · show (if c.segs = [] then Lg.restart i else c.lg).Ok
        split
        · exact Lg.Ok.restart hk.2.2.2
        · exact hc.1
      · rcases List.mem_append.1 hs with hs | hs
        · exact hc.2 s hs
        · simp at hs; subst hs; exact hk
    · cases h
  · rename_i e hd
    have hk := dec_ok hb hd
    split at h
    · rename_i hf
      cases h
      exact hc.sized (hc.1.add hk hf.2) _
    · cases h
  · rename_i i hd
    have hk := dec_ok hb hd
    split at h
    · cases h
      exact hc.sized (hc.1.cut hk.2) _
    · cases h
  · rename_i i hd
    have hk := dec_ok hb hd
    split at h
    · cases h
      exact hc.sized (Lg.Ok.restart hk.2) _
    · cases h
theorem scanR_ok {num : Nat} : ∀ {ts : List (List Int)} {first : Bool} {c : Ct}, (∀ b ∈ ts, Bytes b) → c.Ok → (scanR num first c ts).1.Ok
  | [], _, _, _, h => h
  | b :: r, first, c, hb, h => by
    unfold scanR
    split
    · exact h
    · rename_i c' hc
      exact scanR_ok (fun x hx => hb x (by simp [hx])) (acc_ok (hb b (by simp)) h hc)
end Go.Proofs.YtnppomiggajhnaaGreatDoor.Wl

namespace Go.Proofs.YtnppomiggajhnaaGreatDoor.Wl
open Go.Proofs.YtnppomiggajhnaaGreatDoor.Fld Go.Proofs.YtnppomiggajhnaaGreatDoor.Rc
set_option linter.unusedVariables false

/-- a content that was read from N bytes -/
def Bd (c : Ct) (N : Nat) : Prop := 9 * c.lg.es.length ≤ N ∧ 9 * c.segs.length ≤ N ∧ ∀ s ∈ c.segs, s.size ≤ N
theorem Bd.zero : Bd ct0 0 := ⟨by simp [ct0], by simp [ct0], fun s hs => by simp [ct0] at hs⟩
theorem Bd.more {c : Ct} {N M : Nat} (h : Bd c N) (hm : N ≤ M) : Bd c M := ⟨Nat.le_trans h.1 hm, Nat.le_trans h.2.1 hm, fun s hs => Nat.le_trans (h.2.2 s hs) hm⟩
theorem addSz_len (k : Nat) : ∀ l : List Sg, (addSz k l).length = l.length
  | [] => rfl
  | [s] => rfl
  | s :: t :: r => by rw [addSz, List.length_cons, addSz_len k (t :: r)]; rfl
theorem addSz_bd (k N : Nat) : ∀ (l : List Sg), (∀ s ∈ l, s.size ≤ N) → ∀ s ∈ addSz k l, s.size ≤ N + k
  | [], _, s, hs => by simp [addSz] at hs
  | [u], h, s, hs => by
    simp only [addSz, List.mem_singleton] at hs
    subst hs
    have := h u (by simp)
    simp only
    omega
  | u :: t :: r, h, s, hs => by
    rw [addSz, List.mem_cons] at hs
    rcases hs with rfl | hs
    · have := h s (by simp); omega
    · exact addSz_bd k N (t :: r) (fun x hx => h x (by simp at hx ⊢; exact .inr hx)) s hs
theorem addSz_ne {k : Nat} {l : List Sg} (h : l ≠ []) : addSz k l ≠ [] := by
  intro he
  have := addSz_len k l
  rw [he] at this
  exact h (List.eq_nil_of_length_eq_zero this.symm)
theorem dec_nil : dec [] = none := by
  unfold dec rI
  simp [cutInt]
theorem acc_pos {num : Nat} {first : Bool} {c c' : Ct} {b : List Int} (h : acc num first c b = some c') : 1 ≤ b.length := by
  cases b with
  | nil =>
    unfold acc at h
    rw [dec_nil] at h
    cases h
  | cons x r => simp
theorem acc_bd {num : Nat} {first : Bool} {c c' : Ct} {b : List Int} {N : Nat} (hB : Bd c N) (h : acc num first c b = some c') : Bd c' (N + (8 + b.length)) := by
  have hp := acc_pos h
  obtain ⟨h1, h2, h3⟩ := hB
  have hsz : Bd ⟨c.lg, addSz (8 + b.length) c.segs⟩ (N + (8 + b.length)) := ⟨by simp only; omega, by simp only; rw [addSz_len]; omega, addSz_bd _ _ _ h3⟩
  unfold acc at h
  split at h
  · cases h
  · rename_i n i hd
    split at h
    · cases h
      refine ⟨?_, ?_, ?_⟩
      · simp only
        split
        · simp [Lg.restart]
        · omega
      · simp only [List.length_append, List.length_cons, List.length_nil]; omega
      · intro s hs
        rcases List.mem_append.1 hs with hs | hs
        · have := h3 s hs; omega
        · simp at hs; subst hs; simp only; omega
    · cases h
  · rename_i e hd
    split at h
    · cases h
      exact ⟨by simp only [Lg.add, List.length_append, List.length_cons, List.length_nil]; omega, hsz.2.1, hsz.2.2⟩
    · cases h
  · rename_i i hd
    split at h
    · cases h
      refine ⟨?_, hsz.2.1, hsz.2.2⟩
      simp only [Lg.cut]
      split
      · simp
      · simp only [List.length_take]; omega
    · cases h
  · rename_i i hd
    split at h
    · cases h
      exact ⟨by simp [Lg.restart], hsz.2.1, hsz.2.2⟩
    · cases h
theorem acc_segs {num : Nat} {first : Bool} {c c' : Ct} {b : List Int} (h : acc num first c b = some c') (hf : first = false → c.segs ≠ []) : c'.segs ≠ [] := by
  unfold acc at h
  split at h
  · cases h
  · split at h
    · cases h
      simp
    · cases h
  · split at h
    · rename_i hc
      cases h
      exact addSz_ne (hf hc.1)
    · cases h
  · split at h
    · rename_i hc
      cases h
      exact addSz_ne (hf hc)
    · cases h
  · split at h
    · rename_i hc
      cases h
      exact addSz_ne (hf hc)
    · cases h
theorem scanR_none {num : Nat} {first : Bool} {c : Ct} {b : List Int} {r : List (List Int)} (h : acc num first c b = none) : scanR num first c (b :: r) = (c, false) := by
  rw [scanR, h]
theorem scanR_some {num : Nat} {first : Bool} {c c' : Ct} {b : List Int} {r : List (List Int)} (h : acc num first c b = some c') : scanR num first c (b :: r) = scanR num false c' r := by
  rw [scanR, h]
end Go.Proofs.YtnppomiggajhnaaGreatDoor.Wl

namespace Go.Proofs.YtnppomiggajhnaaGreatDoor.Kp
open Go.Proofs.YtnppomiggajhnaaGreatDoor.Dk Go.Proofs.YtnppomiggajhnaaGreatDoor.Fld
set_option linter.unusedVariables false

def newE : Nm := [46, 110, 101, 119]
def hardN : Nm := [104, 97, 114, 100]
def snapN : Nm := [115, 110, 97, 112]
/-- one step behind another -/
def thn (r : Int × St) (k : St → Int × St) : Int × St := if r.1 = 0 then k r.2 else r
def wr3 (x : Nm) (b : List Int) (t : St) : Int × St := thn (stAppend (x ++ newE) b t) fun t => thn (stSync (x ++ newE) t) fun t => stRename (x ++ newE) x t
/-- b as the file x -/
def stWrite (x : Nm) (b : List Int) (t : St) : Int × St :=
  if (fget (x ++ newE) t.fs).isSome then thn (stUnlink (x ++ newE) t) (wr3 x b) else wr3 x b t

theorem fdel_le (fs : List Fil) (x : Nm) : (fdel x fs).length ≤ fs.length := by
  unfold fdel del
  exact List.length_filter_le _ _
theorem fput_le (f : Fil) (fs : List Fil) : (fput f fs).length ≤ fs.length + 1 := by
  have h1 : (fput f fs).length = (fdel f.1 fs).length + 1 := by
    have := (ins_perm (key := Prod.fst) f (fdel f.1 fs)).length_eq
    rw [List.length_cons] at this
    exact this
  have h2 := fdel_le fs f.1
  omega
theorem doing_le (ok : Bool) (t : St) (f : St → Int × St) (hf : ∀ t, (f t).2.fs.length ≤ t.fs.length + 1) : (doing ok t f).2.fs.length ≤ t.fs.length + 1 := by
  unfold doing
  split
  · split
    · have := hf (chg t).2
      rw [(chg_same t).2] at this
      exact this
    · rw [(chg_same t).2]; omega
  · simp
theorem app_le (x : Nm) (b : List Int) (t : St) : (stAppend x b t).2.fs.length ≤ t.fs.length + 1 := by
  refine doing_le _ _ _ fun t => ?_
  unfold app1
  split
  · simp
  · simp only
    split <;> exact fput_le _ _
theorem sync_le (x : Nm) (t : St) : (stSync x t).2.fs.length ≤ t.fs.length + 1 := by
  refine doing_le _ _ _ fun t => ?_
  unfold sync1
  split
  · exact fput_le _ _
  · simp
theorem unl_le (x : Nm) (t : St) : (stUnlink x t).2.fs.length ≤ t.fs.length := by
  unfold stUnlink doing
  split
  · split
    · unfold unl1
      split
      · simp only
        rw [(chg_same t).2]
        exact fdel_le _ _
      · rw [(chg_same t).2]; exact Nat.le_refl _
    · rw [(chg_same t).2]; exact Nat.le_refl _
  · exact Nat.le_refl _
theorem ren_le (x y : Nm) (t : St) : (stRename x y t).2.fs.length ≤ t.fs.length + 1 := by
  refine doing_le _ _ _ fun t => ?_
  unfold ren1
  split
  · split
    · simp
    · simp only
      refine Nat.le_trans (fdel_le _ _) (Nat.le_trans (fput_le _ _) ?_)
      have := fdel_le t.fs y
      omega
  · simp
theorem thn_ok {r : Int × St} (k : St → Int × St) (h : r.1 = 0) : thn r k = k r.2 := by unfold thn; rw [if_pos h]
theorem thn_no {r : Int × St} (k : St → Int × St) (h : ¬ r.1 = 0) : thn r k = r := by unfold thn; rw [if_neg h]
theorem wr3_le (x : Nm) (b : List Int) (t : St) : (wr3 x b t).2.fs.length ≤ t.fs.length + 3 := by
  have h1 := app_le (x ++ newE) b t
  unfold wr3
  by_cases c1 : (stAppend (x ++ newE) b t).1 = 0
  · rw [thn_ok _ c1]
    generalize (stAppend (x ++ newE) b t).2 = t1 at *
    have h2 := sync_le (x ++ newE) t1
    by_cases c2 : (stSync (x ++ newE) t1).1 = 0
    · rw [thn_ok _ c2]
      have := ren_le (x ++ newE) x (stSync (x ++ newE) t1).2
      omega
    · rw [thn_no _ c2]; omega
  · rw [thn_no _ c1]; omega
theorem write_le (x : Nm) (b : List Int) (t : St) : (stWrite x b t).2.fs.length ≤ t.fs.length + 3 := by
  unfold stWrite
  have h1 := unl_le (x ++ newE) t
  split
  · by_cases c1 : (stUnlink (x ++ newE) t).1 = 0
    · rw [thn_ok _ c1]
      have := wr3_le x b (stUnlink (x ++ newE) t).2
      omega
    · rw [thn_no _ c1]; omega
  · exact wr3_le x b t

/-! ### hard states -/
def hardC (a b : Nat) : List Int := code a ++ code b
def hardOk (a b : Int) : Bool := decide (0 ≤ a) && decide (a ≤ 1099511627776) && (decide (0 ≤ b) && decide (b ≤ 15))
/-- the numbers that a reader of bytes tells, one behind the other; and whether all went well, and nothing is left -/
def rdN (r : List Int × Bool) (most : Nat) : Nat × (List Int × Bool) :=
  if r.2 then (0, r) else match cutNum r.1 with
    | some (v, z) => if v ≤ most then (v, (z, false)) else (0, (r.1, true))
    | none => (0, (r.1, true))
def decHard (zs : List Int) : (Int × Int) × Int :=
  let p := rdN (zs, false) 1099511627776
  let q := rdN p.2 15
  if q.2.2 = false ∧ q.2.1 = [] then (((p.1 : Int), (q.1 : Int)), 0) else ((0, 0), 6)
/-- the content of the record that bytes are -/
def single (zs : List Int) : Option (List Int) := match Rc.first zs with | some c => if zs = Rc.recd c then some c else none | none => none
end Go.Proofs.YtnppomiggajhnaaGreatDoor.Kp
