/-
  The plain mathematics of layer 5: four bytes of a number, a record, records one behind the other, the record with which bytes begin, and the contents that a scan tells (Sc): one answer for all bytes. No condition but those that each theorem states.
-/
import Derived.Test.YtgmpdifggaggdaaGreatDoorFieldMath
import Derived.Test.YtgmpdifggaggdaaGreatDoorCrcMath
namespace Go.Proofs.YtgmpdifggaggdaaGreatDoor.Rc
open Fld (Bytes val)

/-- a number's four bytes, the highest first -/
def four (n : Nat) : List Int := [((n / 16777216 % 256 : Nat) : Int), ((n / 65536 % 256 : Nat) : Int), ((n / 256 % 256 : Nat) : Int), ((n % 256 : Nat) : Int)]
theorem four_len (n : Nat) : (four n).length = 4 := rfl
theorem four_bytes (n : Nat) : Bytes (four n) := by
  unfold four
  exact Fld.bytes_cons (by omega) (by omega) (Fld.bytes_cons (by omega) (by omega) (Fld.bytes_cons (by omega) (by omega) (Fld.bytes_cons (by omega) (by omega) Fld.bytes_nil)))
theorem val_four (n : Nat) (h : n < 4294967296) : val (four n) = n := by
  simp only [val, four, List.foldl_cons, List.foldl_nil, Int.toNat_natCast]
  omega
theorem four_val (l : List Int) (hl : l.length = 4) (hb : Bytes l) : four (val l) = l := by
  match l, hl with
  | [a, b, c, d], _ =>
    have ha := hb a (by simp)
    have hb' := hb b (by simp)
    have hc := hb c (by simp)
    have hd := hb d (by simp)
    simp only [val, four, List.foldl_cons, List.foldl_nil, List.cons.injEq, and_true]
    refine ⟨by omega, by omega, by omega, by omega⟩
theorem val_lt4 (l : List Int) (hl : l.length = 4) (hb : Bytes l) : val l < 4294967296 := by
  have := Fld.val_lt 4 l hl hb
  simpa using this

/-- the sum that stands in the record of t -/
def sumN (t : List Int) : Nat := (Crc.sumS (four t.length ++ t)).toNat
theorem sumN_lt (t : List Int) : sumN t < 4294967296 := (Crc.sumS _).isLt
def recd (t : List Int) : List Int := four t.length ++ (four (sumN t) ++ t)
theorem recd_len (t : List Int) : (recd t).length = 8 + t.length := by simp [recd, four]; omega
theorem recd_bytes {t : List Int} (h : Bytes t) : Bytes (recd t) := Fld.bytes_append (four_bytes _) (Fld.bytes_append (four_bytes _) h)

/-- what the record holds with which zs begins -/
def body (zs : List Int) : List Int := (zs.drop 8).take (val (zs.take 4))
def isRec (zs : List Int) : Prop := 8 ≤ zs.length ∧ val (zs.take 4) ≤ 65536 ∧ 8 + val (zs.take 4) ≤ zs.length ∧ val ((zs.drop 4).take 4) = (Crc.addS (Crc.sumS (zs.take 4)) (body zs)).toNat
instance (zs : List Int) : Decidable (isRec zs) := by unfold isRec; infer_instance
def first (zs : List Int) : Option (List Int) := if isRec zs then some (body zs) else none
theorem first_none {zs : List Int} (h : ¬ isRec zs) : first zs = none := by unfold first; rw [if_neg h]
theorem first_is {zs : List Int} (h : isRec zs) : first zs = some (body zs) := by unfold first; rw [if_pos h]

theorem head4 (n : Nat) (r : List Int) : (four n ++ r).take 4 = four n := by simp [four]
theorem drop4 (n : Nat) (r : List Int) : (four n ++ r).drop 4 = r := by simp [four]
theorem first_recd (t rest : List Int) (ht : t.length ≤ 65536) : first (recd t ++ rest) = some t := by
  have e1 : (recd t ++ rest).take 4 = four t.length := by rw [recd, List.append_assoc]; exact head4 _ _
  have e2 : (recd t ++ rest).drop 4 = four (sumN t) ++ (t ++ rest) := by rw [recd, List.append_assoc, drop4, List.append_assoc]
  have e3 : (recd t ++ rest).drop 8 = t ++ rest := by rw [show 8 = 4 + 4 from rfl, ← List.drop_drop, e2, drop4]
  have e4 : val (four t.length) = t.length := val_four _ (by omega)
  have e5 : body (recd t ++ rest) = t := by rw [body, e3, e1, e4]; simp
  have hr : isRec (recd t ++ rest) := by
    refine ⟨by rw [List.length_append, recd_len]; omega, by rw [e1, e4]; exact ht, by rw [e1, e4, List.length_append, recd_len]; omega, ?_⟩
    rw [e5, e2, head4, e1, val_four _ (sumN_lt t), ← Crc.sumS_append]
    rfl
  rw [first_is hr, e5]
theorem isRec_split {zs : List Int} (hb : Bytes zs) (h : isRec zs) : zs = recd (body zs) ++ zs.drop (8 + (body zs).length) ∧ (body zs).length ≤ 65536 ∧ (body zs).length = val (zs.take 4) := by
  obtain ⟨h1, h2, h3, h4⟩ := h
  have hl : (body zs).length = val (zs.take 4) := by rw [body, List.length_take, List.length_drop]; omega
  have f1 : four (body zs).length = zs.take 4 := by
    rw [hl]; exact four_val _ (by rw [List.length_take]; omega) (Fld.bytes_take hb 4)
  have f2 : four (sumN (body zs)) = (zs.drop 4).take 4 := by
    rw [sumN, f1, Crc.sumS_append, ← h4]
    exact four_val _ (by rw [List.length_take, List.length_drop]; omega) (Fld.bytes_take (Fld.bytes_drop hb 4) 4)
  refine ⟨?_, by omega, hl⟩
  rw [recd, f1, f2, hl]
  conv => lhs; rw [← List.take_append_drop 4 zs]
  rw [List.append_assoc, List.append_assoc]
  congr 1
  conv => lhs; rw [← List.take_append_drop 4 (zs.drop 4)]
  congr 1
  have e8 : (zs.drop 4).drop 4 = zs.drop 8 := by rw [List.drop_drop]
  have e9 : zs.drop (8 + val (zs.take 4)) = (zs.drop 8).drop (val (zs.take 4)) := by rw [List.drop_drop]
  rw [e8, body, e9]
  exact (List.take_append_drop _ _).symm
theorem first_some {zs t : List Int} (hb : Bytes zs) (h : first zs = some t) : zs = recd t ++ zs.drop (8 + t.length) ∧ t.length ≤ 65536 := by
  unfold first at h
  by_cases hr : isRec zs
  · rw [if_pos hr] at h
    obtain rfl := Option.some.inj h
    exact ⟨(isRec_split hb hr).1, (isRec_split hb hr).2.1⟩
  · rw [if_neg hr] at h; cases h

/-- records one behind the other -/
def recs : List (List Int) → List Int
  | [] => []
  | t :: r => recd t ++ recs r
theorem recs_append (xs ys : List (List Int)) : recs (xs ++ ys) = recs xs ++ recs ys := by
  induction xs with
  | nil => rfl
  | cons t r ih => rw [List.cons_append, recs, recs, ih, List.append_assoc]
theorem recs_snoc (xs : List (List Int)) (t : List Int) : recs (xs ++ [t]) = recs xs ++ recd t := by rw [recs_append, recs, recs, List.append_nil]
theorem recs_take (ls : List (List Int)) (k : Nat) (h : k < ls.length) : recs (ls.take (k + 1)) = recs (ls.take k) ++ recd (ls.getD k []) := by
  rw [List.take_succ_eq_append_getElem h, recs_snoc]; simp [h]
theorem recs_drop (ls : List (List Int)) (k : Nat) (h : k < ls.length) : recs (ls.drop k) = recd (ls.getD k []) ++ recs (ls.drop (k + 1)) := by
  rw [List.drop_eq_getElem_cons h, recs]; simp [h]
theorem recs_split (ls : List (List Int)) (k : Nat) : recs ls = recs (ls.take k) ++ recs (ls.drop k) := by rw [← recs_append, List.take_append_drop]
theorem recs_ge (ls : List (List Int)) : 8 * ls.length ≤ (recs ls).length := by
  induction ls with
  | nil => simp [recs]
  | cons t r ih => rw [recs, List.length_append, recd_len, List.length_cons]; omega
def Small (ls : List (List Int)) : Prop := ∀ t ∈ ls, t.length ≤ 65536
theorem small_nil : Small [] := fun t ht => by simp at ht
theorem small_snoc {ls : List (List Int)} {t : List Int} (h : Small ls) (ht : t.length ≤ 65536) : Small (ls ++ [t]) := by
  intro u hu
  rcases List.mem_append.1 hu with hu | hu
  · exact h u hu
  · rw [List.mem_singleton] at hu; rw [hu]; exact ht
theorem small_take {ls : List (List Int)} (h : Small ls) (k : Nat) : Small (ls.take k) := fun t ht => h t (List.mem_of_mem_take ht)
theorem small_drop {ls : List (List Int)} (h : Small ls) (k : Nat) : Small (ls.drop k) := fun t ht => h t (List.mem_of_mem_drop ht)

/-- the contents that a scan of zs tells -/
def Sc (zs : List Int) (ts : List (List Int)) : Prop := ∃ rest, zs = recs ts ++ rest ∧ Small ts ∧ first rest = none
theorem recd_inj (t u r s : List Int) (ht : t.length ≤ 65536) (hu : u.length ≤ 65536) (h : recd t ++ r = recd u ++ s) : t = u ∧ r = s := by
  have h1 := first_recd t r ht
  rw [h, first_recd u s hu] at h1
  obtain rfl := Option.some.inj h1
  exact ⟨rfl, List.append_cancel_left h⟩
/-- whoever begins with records, and is told: the records come first -/
theorem ahead : ∀ (ls ts : List (List Int)) (r s : List Int), Small ls → Small ts → first s = none → recs ls ++ r = recs ts ++ s → ∃ us, ts = ls ++ us ∧ r = recs us ++ s
  | [], ts, r, s, _, _, _, h => ⟨ts, rfl, by simpa [recs] using h⟩
  | t :: ls, [], r, s, hl, _, hs, h => by
    have h' : recd t ++ (recs ls ++ r) = s := by simpa [recs] using h
    rw [← h', first_recd t _ (hl t (by simp))] at hs
    cases hs
  | t :: ls, u :: ts, r, s, hl, ht, hs, h => by
    rw [recs, recs, List.append_assoc, List.append_assoc] at h
    obtain ⟨rfl, h2⟩ := recd_inj _ _ _ _ (hl t (by simp)) (ht u (by simp)) h
    obtain ⟨us, rfl, e⟩ := ahead ls ts r s (fun x hx => hl x (by simp [hx])) (fun x hx => ht x (by simp [hx])) hs h2
    exact ⟨us, rfl, e⟩
theorem Sc.uniq {zs : List Int} {ts us : List (List Int)} (h : Sc zs ts) (k : Sc zs us) : ts = us := by
  obtain ⟨r, e1, s1, f1⟩ := h
  obtain ⟨s, e2, s2, f2⟩ := k
  obtain ⟨x, rfl, e3⟩ := ahead ts us r s s1 s2 f2 (e1.symm.trans e2)
  cases x with
  | nil => simp
  | cons t x =>
    rw [e3, recs, List.append_assoc, first_recd t _ (s2 t (by simp))] at f1
    cases f1
theorem Sc.of {ts : List (List Int)} {rest : List Int} (hs : Small ts) (hf : first rest = none) : Sc (recs ts ++ rest) ts := ⟨rest, rfl, hs, hf⟩
theorem Sc.all {ts : List (List Int)} (hs : Small ts) : Sc (recs ts) ts := ⟨[], by simp, hs, first_none (fun h => by have := h.1; simp at this)⟩
theorem Sc.used {zs : List Int} {ts : List (List Int)} (h : Sc zs ts) : zs.take (recs ts).length = recs ts ∧ (recs ts).length ≤ zs.length := by
  obtain ⟨r, rfl, _, _⟩ := h
  exact ⟨by simp, by rw [List.length_append]; omega⟩

/-- a record that is cut off -/
theorem first_cut (t : List Int) (m : Nat) (ht : t.length ≤ 65536) (h : m < (recd t).length) : first ((recd t).take m) = none := by
  rw [recd_len] at h
  apply first_none
  rintro ⟨h1, h2, h3, _⟩
  rw [List.length_take, recd_len] at h1 h3
  have e : ((recd t).take m).take 4 = four t.length := by rw [List.take_take, Nat.min_eq_left (by omega), recd, head4]
  rw [e, val_four _ (by omega)] at h3
  omega
/-- a record of whose content four neighbouring bytes were turned -/
theorem first_turned (p m q m' rest : List Int) (t : BitVec 32) (ht : t ≠ 0#32) (hb : Bytes m) (hlen : m.length = 4)
    (hm' : m' = Crc.lay m [Crc.uv t % 256, Crc.uv t / 2 ^ 8 % 256, Crc.uv t / 2 ^ 16 % 256, Crc.uv t / 2 ^ 24 % 256]) (hl : (p ++ m ++ q).length ≤ 65536) :
    first (four (p ++ m ++ q).length ++ (four (sumN (p ++ m ++ q)) ++ ((p ++ m' ++ q) ++ rest))) = none := by
  have hlm : m'.length = 4 := by rw [hm', Crc.lay]; simp [hlen]
  have hll : (p ++ m' ++ q).length = (p ++ m ++ q).length := by simp [hlen, hlm]
  apply first_none
  rintro ⟨h1, h2, h3, h4⟩
  have e1 := head4 (p ++ m ++ q).length (four (sumN (p ++ m ++ q)) ++ ((p ++ m' ++ q) ++ rest))
  have e2 := drop4 (p ++ m ++ q).length (four (sumN (p ++ m ++ q)) ++ ((p ++ m' ++ q) ++ rest))
  have e3 : (four (p ++ m ++ q).length ++ (four (sumN (p ++ m ++ q)) ++ ((p ++ m' ++ q) ++ rest))).drop 8 = (p ++ m' ++ q) ++ rest := by
    rw [show 8 = 4 + 4 from rfl, ← List.drop_drop, e2, drop4]
  have e5 : body (four (p ++ m ++ q).length ++ (four (sumN (p ++ m ++ q)) ++ ((p ++ m' ++ q) ++ rest))) = p ++ m' ++ q := by
    rw [body, e3, e1, val_four _ (by omega), ← hll, List.take_left']; rfl
  rw [e5, e1, e2, head4, val_four _ (sumN_lt _), ← Crc.sumS_append, sumN] at h4
  have h5 : Crc.sumS (four (p ++ m ++ q).length ++ (p ++ m ++ q)) = Crc.sumS (four (p ++ m ++ q).length ++ (p ++ m' ++ q)) := BitVec.eq_of_toNat_eq h4
  generalize four (p ++ m ++ q).length = f at h5
  have := Crc.sumS_burst (f ++ p) q m m' t ht hb hlen hm'
  apply this
  rw [show f ++ p ++ m ++ q = f ++ (p ++ m ++ q) by simp, show f ++ p ++ m' ++ q = f ++ (p ++ m' ++ q) by simp]
  exact h5
end Go.Proofs.YtgmpdifggaggdaaGreatDoor.Rc
