/-
  Plain mathematics of the cyclic sum (no program in it): a step on 32 bits, its linearity, that it loses nothing; the sum of bytes as a fold; how sums of parts go together. Conditions: none but those that each theorem states.
-/
import Derived.Laws.BitsAllLaws
import Derived.KernelRfl
namespace Go.Proofs.YtgmpdifggaggdaaGreatDoor.Crc

/-- a 32-bit number, as the whole number that it is -/
def uv (x : BitVec 32) : Int := (x.toNat : Int)
/-- a whole number, as 32 bits -/
def bv (n : Int) : BitVec 32 := BitVec.ofNat 32 n.toNat

theorem uv_nonneg (x : BitVec 32) : 0 ≤ uv x := by unfold uv; omega
theorem uv_lt (x : BitVec 32) : uv x < 4294967296 := by unfold uv; have := x.isLt; omega
theorem uv_le (x : BitVec 32) : uv x ≤ 4294967295 := by have := uv_lt x; omega
theorem uv_bv (n : Int) (h0 : 0 ≤ n) (h1 : n < 4294967296) : uv (bv n) = n := by
  unfold uv bv; rw [BitVec.toNat_ofNat, Nat.mod_eq_of_lt (by omega)]; omega
theorem bv_uv (x : BitVec 32) : bv (uv x) = x := by unfold uv bv; simp
theorem uv_inj {x y : BitVec 32} (h : uv x = uv y) : x = y := by rw [← bv_uv x, h, bv_uv]
theorem uv_eq_iff (x y : BitVec 32) : uv x = uv y ↔ x = y := ⟨uv_inj, fun h => by rw [h]⟩

def poly : BitVec 32 := BitVec.ofNat 32 2197175160
def ones : BitVec 32 := BitVec.ofNat 32 4294967295
theorem uv_poly : uv poly = 2197175160 := by decide
theorem uv_ones : uv ones = 4294967295 := by decide
theorem uv_zero : uv (0#32) = 0 := by decide

theorem xor_uv (x y : BitVec 32) : bits .xor .u32 (uv x) (uv y) = uv (x ^^^ y) := by
  unfold uv; rw [u32_xor_nat _ _ x.isLt y.isLt, BitVec.toNat_xor]
theorem xor_uv_poly (x : BitVec 32) : bits .xor .u32 (uv x) 2197175160 = uv (x ^^^ poly) := by rw [← uv_poly]; exact xor_uv x poly
theorem xor_uv_ones (x : BitVec 32) : bits .xor .u32 (uv x) 4294967295 = uv (x ^^^ ones) := by rw [← uv_ones]; exact xor_uv x ones
theorem half_uv (x : BitVec 32) : uv x / (2 : Int) = uv (x >>> (1 : Nat)) := by
  unfold uv; rw [BitVec.toNat_ushiftRight, Nat.shiftRight_eq_div_pow]; omega

/-- one step of the register -/
def stp (x : BitVec 32) : BitVec 32 := (x >>> 1) ^^^ (if x.getLsbD 0 then poly else 0#32)
theorem lsb_iff (x : BitVec 32) : x.getLsbD 0 = true ↔ uv x % 2 = 1 := by
  unfold uv BitVec.getLsbD; rw [Nat.testBit_zero]; simp; omega
theorem stp_odd (x : BitVec 32) (h : uv x % 2 = 1) : stp x = (x >>> 1) ^^^ poly := by
  unfold stp; rw [if_pos ((lsb_iff x).2 h)]
theorem stp_even (x : BitVec 32) (h : ¬ uv x % 2 = 1) : stp x = x >>> 1 := by
  unfold stp; rw [if_neg (fun e => h ((lsb_iff x).1 e))]; simp

theorem stp_xor (x y : BitVec 32) : stp (x ^^^ y) = stp x ^^^ stp y := by
  unfold stp
  rw [BitVec.ushiftRight_xor_distrib, BitVec.getLsbD_xor]
  cases x.getLsbD 0 <;> cases y.getLsbD 0 <;> simp
  · ac_rfl
  · ac_rfl
  · rw [show x >>> 1 ^^^ poly ^^^ (y >>> 1 ^^^ poly) = (x >>> 1 ^^^ y >>> 1) ^^^ (poly ^^^ poly) by ac_rfl]; simp

theorem stp_zero : stp 0#32 = 0#32 := by decide
theorem poly_top : poly.getLsbD 31 = true := by decide
theorem stp_eq_zero (x : BitVec 32) (h : stp x = 0#32) : x = 0#32 := by
  by_cases hl : x.getLsbD 0 = true
  · exfalso
    unfold stp at h; rw [if_pos hl] at h
    have h2 := congrArg (fun z => z.getLsbD 31) h
    have h3 : (x >>> 1).getLsbD 31 = false := by rw [BitVec.getLsbD_ushiftRight]; exact BitVec.getLsbD_of_ge x _ (by omega)
    have h4 : (0#32).getLsbD 31 = false := by decide
    simp only [BitVec.getLsbD_xor, h3, h4, poly_top] at h2
    cases h2
  · unfold stp at h; rw [if_neg hl, BitVec.xor_zero] at h
    apply BitVec.eq_of_getLsbD_eq
    intro i hi
    rcases i with _ | i
    · simpa using hl
    · have h2 := congrArg (fun z => z.getLsbD i) h
      simp [BitVec.getLsbD_ushiftRight] at h2
      simpa [Nat.add_comm] using h2

def stps : Nat → BitVec 32 → BitVec 32
  | 0, x => x
  | n + 1, x => stps n (stp x)
theorem stps_zero (x : BitVec 32) : stps 0 x = x := rfl
theorem stps_succ (n : Nat) (x : BitVec 32) : stps (n + 1) x = stps n (stp x) := rfl
theorem stps_add (m n : Nat) (x : BitVec 32) : stps (m + n) x = stps n (stps m x) := by
  induction m generalizing x with
  | zero => simp [stps]
  | succ m ih => rw [show m + 1 + n = (m + n) + 1 by omega, stps_succ, ih, stps_succ]
theorem stps_last (n : Nat) (x : BitVec 32) : stps (n + 1) x = stp (stps n x) := by rw [stps_add]; rfl
theorem stps_xor (n : Nat) (x y : BitVec 32) : stps n (x ^^^ y) = stps n x ^^^ stps n y := by
  induction n generalizing x y with
  | zero => rfl
  | succ n ih => rw [stps_succ, stp_xor, ih]; rfl
theorem stps_of_zero (n : Nat) : stps n 0#32 = 0#32 := by
  induction n with
  | zero => rfl
  | succ n ih => rw [stps_succ, stp_zero, ih]
theorem stps_eq_zero (n : Nat) (x : BitVec 32) (h : stps n x = 0#32) : x = 0#32 := by
  induction n generalizing x with
  | zero => exact h
  | succ n ih => rw [stps_succ] at h; exact stp_eq_zero x (ih _ h)

/-- the register behind one byte, and behind many -/
def upd (r : BitVec 32) (c : Int) : BitVec 32 := stps 8 (r ^^^ bv c)
def feed (r : BitVec 32) (zs : List Int) : BitVec 32 := zs.foldl upd r
theorem feed_nil (r : BitVec 32) : feed r [] = r := rfl
theorem feed_cons (r : BitVec 32) (c : Int) (zs : List Int) : feed r (c :: zs) = feed (upd r c) zs := rfl
theorem feed_append (r : BitVec 32) (xs ys : List Int) : feed r (xs ++ ys) = feed (feed r xs) ys := by unfold feed; rw [List.foldl_append]
theorem feed_snoc (r : BitVec 32) (xs : List Int) (c : Int) : feed r (xs ++ [c]) = upd (feed r xs) c := feed_append r xs [c]
theorem feed_take (r : BitVec 32) (zs : List Int) (k : Nat) (h : k < zs.length) : feed r (zs.take (k + 1)) = upd (feed r (zs.take k)) (zs.getD k 0) := by
  rw [List.take_succ_eq_append_getElem h, feed_snoc]; simp [h]

/-- the sum of bytes behind those whose sum is s -/
def addS (s : BitVec 32) (zs : List Int) : BitVec 32 := feed (s ^^^ ones) zs ^^^ ones
def sumS (zs : List Int) : BitVec 32 := addS 0#32 zs

theorem xor_ones_ones (x : BitVec 32) : x ^^^ ones ^^^ ones = x := by rw [BitVec.xor_assoc, BitVec.xor_self, BitVec.xor_zero]
theorem addS_append (s : BitVec 32) (xs ys : List Int) : addS s (xs ++ ys) = addS (addS s xs) ys := by
  unfold addS; rw [feed_append, xor_ones_ones]
theorem sumS_append (xs ys : List Int) : sumS (xs ++ ys) = addS (sumS xs) ys := addS_append _ xs ys
theorem addS_nil (s : BitVec 32) : addS s [] = s := by unfold addS; rw [feed_nil, xor_ones_ones]

/-- one register is another one laid over the difference -/
theorem feed_xor (r d : BitVec 32) (zs : List Int) : feed (r ^^^ d) zs = feed r zs ^^^ stps (8 * zs.length) d := by
  induction zs generalizing r d with
  | nil => rfl
  | cons c zs ih =>
    rw [feed_cons, feed_cons]
    have : upd (r ^^^ d) c = upd r c ^^^ stps 8 d := by
      unfold upd; rw [← stps_xor]; congr 1; ac_rfl
    rw [this, ih, List.length_cons, show 8 * (zs.length + 1) = 8 + 8 * zs.length by omega, stps_add]

/-- the sum of two parts, joined -/
theorem sumS_join (xs ys : List Int) : sumS (xs ++ ys) = stps (8 * ys.length) (sumS xs) ^^^ sumS ys := by
  rw [sumS_append]
  have e : addS (sumS xs) ys = feed (ones ^^^ sumS xs) ys ^^^ ones := by unfold addS; rw [BitVec.xor_comm ones]
  have z : sumS ys = feed ones ys ^^^ ones := by unfold sumS addS; simp
  rw [e, z, feed_xor]; ac_rfl

/-- bytes laid over one another -/
theorem bv_xor (a b : Int) (ha : 0 ≤ a) (ha' : a ≤ 255) (hb : 0 ≤ b) (hb' : b ≤ 255) : bv (bits .xor .u8 a b) = bv a ^^^ bv b := by
  rw [u8_xor a b ha (by omega) hb (by omega)]
  apply BitVec.eq_of_toNat_eq
  unfold bv
  simp only [Int.toNat_natCast, BitVec.toNat_xor, BitVec.toNat_ofNat]
  have h1 : a.toNat % 2 ^ 32 = a.toNat := Nat.mod_eq_of_lt (by omega)
  have h2 : b.toNat % 2 ^ 32 = b.toNat := Nat.mod_eq_of_lt (by omega)
  rw [h1, h2, Nat.mod_eq_of_lt]
  exact Nat.xor_lt_two_pow (by omega) (by omega)
theorem xor8_bd (a b : Int) (ha : 0 ≤ a) (ha' : a ≤ 255) (hb : 0 ≤ b) (hb' : b ≤ 255) : 0 ≤ bits .xor .u8 a b ∧ bits .xor .u8 a b ≤ 255 := by
  rw [u8_xor a b ha (by omega) hb (by omega)]
  have := Nat.xor_lt_two_pow (x := a.toNat) (y := b.toNat) (n := 8) (by omega) (by omega)
  omega

/-- the low byte apart: what is above it only moves down -/
theorem stps_high (k : Nat) (y : BitVec 32) (h : ∀ i, i < k → y.getLsbD i = false) : stps k y = y >>> k := by
  induction k generalizing y with
  | zero => simp [stps]
  | succ k ih =>
    rw [stps_succ]
    have h0 : stp y = y >>> 1 := by unfold stp; rw [h 0 (by omega)]; simp
    rw [h0, ih]
    · rw [← BitVec.shiftRight_add, Nat.add_comm]
    · intro i hi; rw [BitVec.getLsbD_ushiftRight]; exact h _ (by omega)
theorem stps_low (r t : BitVec 32) : stps 8 (r ^^^ t) = stps 8 (r ^^^ (t &&& 255#32)) ^^^ (t >>> 8) := by
  have e : t = (t &&& 255#32) ^^^ (t &&& ~~~255#32) := by
    apply BitVec.eq_of_getLsbD_eq; intro i hi
    simp only [BitVec.getLsbD_xor, BitVec.getLsbD_and, BitVec.getLsbD_not, hi, decide_true, Bool.true_and]
    cases t.getLsbD i <;> cases (255#32).getLsbD i <;> rfl
  have hs : stps 8 (t &&& ~~~255#32) = t >>> 8 := by
    rw [stps_high]
    · apply BitVec.eq_of_getLsbD_eq; intro i hi
      rw [BitVec.getLsbD_ushiftRight, BitVec.getLsbD_ushiftRight, BitVec.getLsbD_and]
      by_cases h8 : 8 + i < 32
      · have : (~~~255#32).getLsbD (8 + i) = true := by
          rw [BitVec.getLsbD_not]; simp only [h8, decide_true, Bool.true_and]
          have : ∀ j, j < 24 → (!(255#32).getLsbD (8 + j)) = true := by decide
          exact this i (by omega)
        rw [this, Bool.and_true]
      · rw [BitVec.getLsbD_of_ge t _ (by omega)]; simp
    · intro i hi
      rw [BitVec.getLsbD_and]
      have : ∀ j, j < 8 → (~~~255#32).getLsbD j = false := by decide
      rw [this i hi, Bool.and_false]
  conv => lhs; rw [e]
  rw [← BitVec.xor_assoc, stps_xor, hs]

/-- four bytes, the lowest first, are one number laid over the register -/
theorem bv_byte (t : BitVec 32) (c : Int) (h : c = uv t % 256) : bv c = t &&& 255#32 := by
  subst h
  apply BitVec.eq_of_toNat_eq
  unfold bv uv
  rw [BitVec.toNat_and, BitVec.toNat_ofNat, BitVec.toNat_ofNat]
  have e2 : (255 % 2 ^ 32) = 2 ^ 8 - 1 := by decide
  rw [e2, Nat.and_two_pow_sub_one_eq_mod]
  omega
theorem upd_byte (r t : BitVec 32) (c : Int) (h : c = uv t % 256) : upd r c = stps 8 (r ^^^ t) ^^^ (t >>> 8) := by
  unfold upd; rw [stps_low r t, bv_byte t c h, BitVec.xor_assoc, BitVec.xor_self, BitVec.xor_zero]
theorem shr_uv (t : BitVec 32) (k : Nat) : uv (t >>> k) = uv t / 2 ^ k := by
  unfold uv; rw [BitVec.toNat_ushiftRight, Nat.shiftRight_eq_div_pow]; simp
theorem feed_word (r t : BitVec 32) : feed r [uv t % 256, uv t / 2 ^ 8 % 256, uv t / 2 ^ 16 % 256, uv t / 2 ^ 24 % 256] = stps 32 (r ^^^ t) := by
  have s1 : upd r (uv t % 256) = stps 8 (r ^^^ t) ^^^ (t >>> 8) := upd_byte r t _ rfl
  have s2 : upd (stps 8 (r ^^^ t) ^^^ (t >>> 8)) (uv t / 2 ^ 8 % 256) = stps 16 (r ^^^ t) ^^^ (t >>> 16) := by
    rw [upd_byte _ (t >>> 8) _ (by rw [shr_uv]), BitVec.xor_assoc (stps 8 (r ^^^ t)), BitVec.xor_self, BitVec.xor_zero, ← stps_add, ← BitVec.shiftRight_add]
  have s3 : upd (stps 16 (r ^^^ t) ^^^ (t >>> 16)) (uv t / 2 ^ 16 % 256) = stps 24 (r ^^^ t) ^^^ (t >>> 24) := by
    rw [upd_byte _ (t >>> 16) _ (by rw [shr_uv]), BitVec.xor_assoc (stps 16 (r ^^^ t)), BitVec.xor_self, BitVec.xor_zero, ← stps_add, ← BitVec.shiftRight_add]
  have s4 : upd (stps 24 (r ^^^ t) ^^^ (t >>> 24)) (uv t / 2 ^ 24 % 256) = stps 32 (r ^^^ t) ^^^ (t >>> 32) := by
    rw [upd_byte _ (t >>> 24) _ (by rw [shr_uv]), BitVec.xor_assoc (stps 24 (r ^^^ t)), BitVec.xor_self, BitVec.xor_zero, ← stps_add, ← BitVec.shiftRight_add]
  have z : t >>> 32 = 0#32 := by
    apply BitVec.eq_of_getLsbD_eq; intro i hi; rw [BitVec.getLsbD_ushiftRight, BitVec.getLsbD_of_ge t _ (by omega)]; simp
  rw [feed_cons, feed_cons, feed_cons, feed_cons, feed_nil, s1, s2, s3, s4, z, BitVec.xor_zero]

/-- bytes with their own sum behind -/
theorem sumS_own (zs : List Int) (s : BitVec 32) (hs : s = sumS zs) : sumS (zs ++ [uv s % 256, uv s / 2 ^ 8 % 256, uv s / 2 ^ 16 % 256, uv s / 2 ^ 24 % 256]) = stps 32 ones ^^^ ones := by
  unfold sumS addS
  rw [feed_append, feed_word]
  congr 2
  have : feed (0#32 ^^^ ones) zs = s ^^^ ones := by rw [hs]; unfold sumS addS; rw [xor_ones_ones]
  rw [this, BitVec.xor_assoc, BitVec.xor_comm ones, ← BitVec.xor_assoc, BitVec.xor_self, BitVec.zero_xor]
theorem own_num : uv (stps 32 ones ^^^ ones) = 1214729159 := by decide +kernel

/-- what two texts laid over one another are fed -/
def lay (xs ys : List Int) : List Int := List.zipWith (fun a b => bits .xor .u8 a b) xs ys
def Bytes (zs : List Int) : Prop := ∀ c ∈ zs, 0 ≤ c ∧ c ≤ 255
theorem lay_bytes (xs ys : List Int) (hx : Bytes xs) (hy : Bytes ys) : Bytes (lay xs ys) := by
  intro c hc
  unfold lay at hc
  induction xs generalizing ys with
  | nil => simp at hc
  | cons a xs ih =>
    rcases ys with _ | ⟨b, ys⟩
    · simp at hc
    · simp only [List.zipWith_cons_cons, List.mem_cons] at hc
      have ha := hx a (by simp)
      have hb := hy b (by simp)
      rcases hc with rfl | hc
      · exact xor8_bd a b ha.1 ha.2 hb.1 hb.2
      · exact ih ys (fun c hc => hx c (by simp [hc])) (fun c hc => hy c (by simp [hc])) hc
theorem feed_lay (r s : BitVec 32) (xs ys : List Int) (hl : xs.length = ys.length) (hx : Bytes xs) (hy : Bytes ys) : feed (r ^^^ s) (lay xs ys) = feed r xs ^^^ feed s ys := by
  induction xs generalizing ys r s with
  | nil => rcases ys with _ | ⟨b, ys⟩ <;> simp_all [lay, feed]
  | cons a xs ih =>
    rcases ys with _ | ⟨b, ys⟩
    · simp at hl
    · have ha := hx a (by simp)
      have hb := hy b (by simp)
      show feed (upd (r ^^^ s) (bits .xor .u8 a b)) (lay xs ys) = feed (upd r a) xs ^^^ feed (upd s b) ys
      have : upd (r ^^^ s) (bits .xor .u8 a b) = upd r a ^^^ upd s b := by
        unfold upd; rw [bv_xor a b ha.1 ha.2 hb.1 hb.2, ← stps_xor]; congr 1; ac_rfl
      rw [this]
      exact ih _ _ ys (by simpa using hl) (fun c hc => hx c (by simp [hc])) (fun c hc => hy c (by simp [hc]))

/-- three texts of one length, laid over one another -/
theorem sumS_lay3 (xs ys zs : List Int) (h1 : xs.length = ys.length) (h2 : ys.length = zs.length) (hx : Bytes xs) (hy : Bytes ys) (hz : Bytes zs) :
    sumS (lay (lay xs ys) zs) = sumS xs ^^^ sumS ys ^^^ sumS zs := by
  have hl : (lay xs ys).length = zs.length := by unfold lay; simp; omega
  have e : (0#32 ^^^ ones) = (ones ^^^ ones) ^^^ ones := by simp
  unfold sumS addS
  rw [e, feed_lay _ _ _ _ hl (lay_bytes _ _ hx hy) hz, feed_lay _ _ _ _ h1 hx hy]
  have z : (ones ^^^ ones) ^^^ ones = ones := by simp
  rw [z]
  generalize feed ones xs = a
  generalize feed ones ys = b
  generalize feed ones zs = c
  rw [show a ^^^ ones ^^^ (b ^^^ ones) ^^^ (c ^^^ ones) = (a ^^^ b ^^^ c ^^^ ones) ^^^ (ones ^^^ ones) by ac_rfl, BitVec.xor_self, BitVec.xor_zero]

/-- texts that are unlike in four neighbouring bytes -/
theorem sumS_burst (p q m m' : List Int) (t : BitVec 32) (ht : t ≠ 0#32) (hm : Bytes m) (hlen : m.length = 4)
    (hm' : m' = lay m [uv t % 256, uv t / 2 ^ 8 % 256, uv t / 2 ^ 16 % 256, uv t / 2 ^ 24 % 256]) :
    sumS (p ++ m ++ q) ≠ sumS (p ++ m' ++ q) := by
  intro h
  have hb : Bytes [uv t % 256, uv t / 2 ^ 8 % 256, uv t / 2 ^ 16 % 256, uv t / 2 ^ 24 % 256] := by
    intro c hc
    simp only [List.mem_cons, List.not_mem_nil, or_false] at hc
    rcases hc with rfl | rfl | rfl | rfl <;> omega
  unfold sumS addS at h
  rw [feed_append, feed_append, feed_append, feed_append] at h
  generalize feed (0#32 ^^^ ones) p = r at h
  have e : feed r m' = feed r m ^^^ stps 32 t := by
    have w := feed_word 0#32 t
    rw [BitVec.zero_xor] at w
    rw [hm', ← w, ← feed_lay r 0#32 m _ (by rw [hlen]; rfl) hm hb, BitVec.xor_zero]
  rw [e, feed_xor] at h
  have h2 := congrArg (fun z => z ^^^ ones ^^^ feed (feed r m) q) h
  simp only [xor_ones_ones, BitVec.xor_self] at h2
  rw [BitVec.xor_comm (feed (feed r m) q), BitVec.xor_assoc, BitVec.xor_self, BitVec.xor_zero] at h2
  exact ht (stps_eq_zero _ _ (stps_eq_zero _ _ h2.symm))

/-! ### a linear map, as its values at the 32 bits -/
def Linear (L : BitVec 32 → BitVec 32) : Prop := ∀ x y, L (x ^^^ y) = L x ^^^ L y
theorem Linear.zero {L : BitVec 32 → BitVec 32} (h : Linear L) : L 0#32 = 0#32 := by
  have := h 0#32 0#32
  rw [BitVec.xor_zero] at this
  rw [BitVec.xor_self] at this
  exact this
theorem linear_stps (n : Nat) : Linear (stps n) := fun x y => stps_xor n x y
def bit (i : Nat) : BitVec 32 := (1#32) <<< i
/-- the lowest k bits of r -/
def low (r : BitVec 32) (k : Nat) : BitVec 32 := BitVec.ofNat 32 (r.toNat % 2 ^ k)
theorem low_bit (r : BitVec 32) (k i : Nat) (hi : i < 32) : (low r k).getLsbD i = (decide (i < k) && r.getLsbD i) := by
  unfold low
  rw [BitVec.getLsbD_ofNat]
  simp [hi, Nat.testBit_mod_two_pow, BitVec.getLsbD]
theorem low_zero (r : BitVec 32) : low r 0 = 0#32 := by
  apply BitVec.eq_of_getLsbD_eq; intro i hi; rw [low_bit _ _ _ hi]; simp
theorem low_all (r : BitVec 32) : low r 32 = r := by
  apply BitVec.eq_of_getLsbD_eq; intro i hi; rw [low_bit _ _ _ hi]; simp [hi]
theorem bit_bit (i k : Nat) (hi : i < 32) (_hk : k < 32) : (bit k).getLsbD i = decide (i = k) := by
  unfold bit
  rw [BitVec.getLsbD_shiftLeft, BitVec.getLsbD_one]
  by_cases h : i = k
  · subst h; simp [hi]
  · by_cases h2 : i < k <;> simp [hi, h, h2]
    omega
theorem low_succ (r : BitVec 32) (k : Nat) (hk : k < 32) : low r (k + 1) = low r k ^^^ (if r.getLsbD k then bit k else 0#32) := by
  apply BitVec.eq_of_getLsbD_eq; intro i hi
  rw [BitVec.getLsbD_xor, low_bit _ _ _ hi, low_bit _ _ _ hi]
  by_cases hb : r.getLsbD k = true
  · rw [if_pos hb, bit_bit i k hi hk]
    by_cases h : i = k
    · subst h; simp [hb]
    · by_cases h2 : i < k
      · simp [h, h2, show i < k + 1 by omega]
      · simp [h, h2, show ¬ i < k + 1 by omega]
  · rw [if_neg hb]
    by_cases h : i = k
    · subst h; simp at hb; simp [hb]
    · by_cases h2 : i < k
      · simp [h2, show i < k + 1 by omega]
      · simp [h2, show ¬ i < k + 1 by omega]
theorem linear_low_yes {L : BitVec 32 → BitVec 32} (h : Linear L) (r : BitVec 32) (k : Nat) (hk : k < 32) (hb : r.getLsbD k = true) : L (low r (k + 1)) = L (low r k) ^^^ L (bit k) := by
  rw [low_succ r k hk, if_pos hb, h]
theorem linear_low_no {L : BitVec 32 → BitVec 32} (r : BitVec 32) (k : Nat) (hk : k < 32) (hb : r.getLsbD k = false) : L (low r (k + 1)) = L (low r k) := by
  rw [low_succ r k hk, hb]; simp
theorem bit_test (r : BitVec 32) (k : Nat) : r.getLsbD k = true ↔ uv r / 2 ^ k % 2 = 1 := by
  unfold uv BitVec.getLsbD
  rw [Nat.testBit_eq_decide_div_mod_eq]
  simp
  have : ((r.toNat : Int) / 2 ^ k) = ((r.toNat / 2 ^ k : Nat) : Int) := by simp
  omega
theorem uv_bit (k : Nat) (hk : k < 32) : uv (bit k) = 2 ^ k := by
  have : ∀ k, k < 32 → uv (bit k) = 2 ^ k := by decide
  exact this k hk
end Go.Proofs.YtgmpdifggaggdaaGreatDoor.Crc
