/-
  Several texts in one: The document's reader in memory (Doc); what its next answers, in the words of the codes. Conditions: the reader lies in memory as it was made. What the document's reader's Number and Whole answer, and what becomes of the reader. Conditions: the reader lies in memory as it was made. What the document's reader's Int answers, and what becomes of the reader. Conditions: the reader lies in memory as it was made. What the document's reader's Text answers, and what becomes of the reader. Conditions: the reader lies in memory as it was made. Append of the program's disk: the walks. Conditions: the disk lies in memory as it was made (Im), the bytes can be read. Append of the program's disk: the method. Conditions: the disk lies in memory as it was made (Im), the bytes can be read. What the function first of package record answers for whatever bytes: the content of the record with which they begin, in the bytes' own memory, or nothing. Conditions: the slice's cells can be read.
-/
import Derived.Test.YtnppomiggajhnaaGreatDoorJFieldTxt
import Derived.Deep.RegionLaw
import Derived.Test.YtnppomiggajhnaaGreatDoorJDiskFault
import Derived.BigQuiet
import Derived.Deep.RegionWith
import Derived.Deep.QuietTactic
namespace Go.Proofs.YtnppomiggajhnaaGreatDoor.Fld
open Go.RowKit

/-- what stands next: its size, whether it is below 0, how many bytes its code has -/
def nextS : List Int → Option (Nat × Bool × Nat)
  | [] => none
  | c :: r =>
    if c < 16 then (if okD r c.toNat then some (val (r.take c.toNat), false, c.toNat + 1) else none)
    else if 0 < c - 16 ∧ okD r (c - 16).toNat then some (val (r.take (c - 16).toNat), true, (c - 16).toNat + 1) else none
theorem nextS_low (c : Nat) (r : List Int) (h : c < 16) : nextS ((c : Int) :: r) = if okD r c then some (val (r.take c), false, c + 1) else none := by
  rw [nextS, if_pos (by omega), Int.toNat_natCast]
theorem nextS_high (q : Nat) (r : List Int) : nextS (((q : Int) + 16) :: r) = if 0 < q ∧ okD r q then some (val (r.take q), true, q + 1) else none := by
  rw [nextS, if_neg (by omega), show ((q : Int) + 16 - 16).toNat = q by omega]
  by_cases h : 0 < q ∧ okD r q
  · rw [if_pos h, if_pos ⟨by omega, h.2⟩]
  · rw [if_neg h, if_neg (fun h' => h ⟨by omega, h'.2⟩)]
theorem byte_cases (c : Int) (h0 : 0 ≤ c) (h1 : c ≤ 255) : (∃ k : Nat, k < 16 ∧ c = (k : Int)) ∨ ∃ q : Nat, q ≤ 239 ∧ c = (q : Int) + 16 := by
  by_cases h : c < 16
  · exact .inl ⟨c.toNat, by omega, by omega⟩
  · exact .inr ⟨(c - 16).toNat, by omega, by omega⟩

theorem cutNum_next (zs : List Int) (hb : Bytes zs) (v : Nat) (r : List Int) (h : cutNum zs = some (v, r)) : ∃ k, nextS zs = some (v, false, k) ∧ 0 < k ∧ k ≤ zs.length ∧ r = zs.drop k ∧ v < 18446744073709551616 := by
  cases zs with
  | nil => simp [cutNum] at h
  | cons c rr =>
    have hc := hb c (by simp)
    have hrr : Bytes rr := fun d hd => hb d (by simp [hd])
    rw [cutNum] at h
    by_cases hok : okD rr c.toNat
    · rw [if_pos hok] at h
      simp only [Option.some.injEq, Prod.mk.injEq] at h
      obtain ⟨rfl, rfl⟩ := h
      have h8 := hok.1
      have hl := hok.2.1
      refine ⟨c.toNat + 1, ?_, by omega, by rw [List.length_cons]; omega, by rw [List.drop_succ_cons], (digs_cut rr _ hrr hok).2⟩
      rw [nextS, if_pos (by omega), if_pos hok]
    · rw [if_neg hok] at h
      cases h
theorem cutNum_none (zs : List Int) (hb : Bytes zs) (h : cutNum zs = none) : nextS zs = none ∨ ∃ v k, nextS zs = some (v, true, k + 1) := by
  cases zs with
  | nil => exact .inl rfl
  | cons c rr =>
    have hc := hb c (by simp)
    rcases byte_cases c hc.1 hc.2 with ⟨k, hk, rfl⟩ | ⟨q, hq, rfl⟩
    · rw [cutNum, Int.toNat_natCast] at h
      rw [nextS_low k rr hk]
      by_cases hok : okD rr k
      · rw [if_pos hok] at h; cases h
      · rw [if_neg hok]; exact .inl rfl
    · rw [nextS_high]
      by_cases hok : 0 < q ∧ okD rr q
      · rw [if_pos hok]; exact .inr ⟨_, _, rfl⟩
      · rw [if_neg hok]; exact .inl rfl
theorem cutInt_next (zs : List Int) (hb : Bytes zs) (x : Int) (r : List Int) (h : cutInt zs = some (x, r)) : ∃ v k, 0 < k ∧ k ≤ zs.length ∧ r = zs.drop k ∧
    ((nextS zs = some (v, false, k) ∧ v ≤ 9223372036854775807 ∧ x = (v : Int)) ∨ (nextS zs = some (v, true, k) ∧ 0 < v ∧ v ≤ 9223372036854775808 ∧ x = -(v : Int))) := by
  cases zs with
  | nil => simp [cutInt] at h
  | cons c rr =>
    have hc := hb c (by simp)
    have hrr : Bytes rr := fun d hd => hb d (by simp [hd])
    by_cases h8 : c ≤ 8
    · obtain ⟨k, rfl⟩ : ∃ k : Nat, c = (k : Int) := ⟨c.toNat, by omega⟩
      rw [cutInt, if_pos h8, Int.toNat_natCast] at h
      by_cases hok : okD rr k ∧ val (rr.take k) ≤ 9223372036854775807
      · rw [if_pos hok] at h
        simp only [Option.some.injEq, Prod.mk.injEq] at h
        obtain ⟨rfl, rfl⟩ := h
        have hl := hok.1.2.1
        refine ⟨val (rr.take k), k + 1, by omega, by rw [List.length_cons]; omega, by rw [List.drop_succ_cons], .inl ⟨?_, hok.2, rfl⟩⟩
        rw [nextS_low k rr (by omega), if_pos hok.1]
      · rw [if_neg hok] at h; cases h
    · by_cases h16 : c ≤ 16
      · rw [cutInt, if_neg h8, if_neg (fun h' => by omega)] at h
        cases h
      · obtain ⟨q, rfl⟩ : ∃ q : Nat, c = (q : Int) + 16 := ⟨(c - 16).toNat, by omega⟩
        rw [cutInt, if_neg h8, show ((q : Int) + 16 - 16).toNat = q by omega] at h
        by_cases hok : 16 < (q : Int) + 16 ∧ okD rr q ∧ val (rr.take q) ≤ 9223372036854775808
        · rw [if_pos hok] at h
          simp only [Option.some.injEq, Prod.mk.injEq] at h
          obtain ⟨rfl, rfl⟩ := h
          obtain ⟨hq, ho, hv⟩ := hok
          have hl := ho.2.1
          have hd := (digs_cut rr q hrr ho).1
          have hlen : (rr.take q).length = q := by rw [List.length_take]; omega
          have hp : 0 < val (rr.take q) := digs_len_pos _ (by rw [hd, hlen]; omega)
          refine ⟨val (rr.take q), q + 1, by omega, by rw [List.length_cons]; omega, by rw [List.drop_succ_cons], .inr ⟨?_, hp, hv, rfl⟩⟩
          rw [nextS_high, if_pos ⟨by omega, ho⟩]
        · rw [if_neg hok] at h; cases h
theorem cutInt_none (zs : List Int) (hb : Bytes zs) (h : cutInt zs = none) : nextS zs = none ∨ (∃ v k, nextS zs = some (v, false, k + 1) ∧ 9223372036854775807 < v) ∨ (∃ v k, nextS zs = some (v, true, k + 1) ∧ 9223372036854775808 < v) := by
  cases zs with
  | nil => exact .inl rfl
  | cons c rr =>
    have hc := hb c (by simp)
    rcases byte_cases c hc.1 hc.2 with ⟨k, hk, rfl⟩ | ⟨q, hq, rfl⟩
    · rw [nextS_low k rr hk]
      by_cases hok : okD rr k
      · rw [if_pos hok]
        have h8 := hok.1
        rw [cutInt, if_pos (by omega), Int.toNat_natCast] at h
        by_cases hv : val (rr.take k) ≤ 9223372036854775807
        · rw [if_pos ⟨hok, hv⟩] at h; cases h
        · exact .inr (.inl ⟨_, _, rfl, by omega⟩)
      · rw [if_neg hok]; exact .inl rfl
    · rw [nextS_high]
      by_cases hok : 0 < q ∧ okD rr q
      · rw [if_pos hok]
        rw [cutInt, if_neg (by omega), show ((q : Int) + 16 - 16).toNat = q by omega] at h
        by_cases hv : val (rr.take q) ≤ 9223372036854775808
        · rw [if_pos ⟨by omega, hok.2, hv⟩] at h; cases h
        · exact .inr (.inr ⟨_, _, rfl, by omega⟩)
      · rw [if_neg hok]; exact .inl rfl

/-! ### the document's reader -/
def Doc (w : World) (h : Nat) (A : Option Addr) (n cap p : Nat) (zs : List Int) (bad : Bool) : Prop := Three w h A n cap p bad ∧ Rd w A n zs ∧ p ≤ n ∧ n ≤ cap ∧ n ≤ 140737488351232
theorem Doc.at {w : World} {h : Nat} {A : Option Addr} {n cap p : Nat} {zs : List Int} {bad : Bool} (t : Doc w h A n cap p zs bad) (hp : p < n) : ∃ b off, A = some ⟨b, off, none⟩ ∧ (∀ i, i < n → w.cell? ⟨b, off + i, none⟩ = some (.int .u8 (zs.getD i 0))) := by
  obtain ⟨b, off, e, hc⟩ := t.2.1.2.2.2 (by omega)
  exact ⟨b, off, e, hc⟩
theorem drop_cons (zs : List Int) (p : Nat) (h : p < zs.length) : zs.drop p = zs.getD p 0 :: zs.drop (p + 1) := by
  rw [List.drop_eq_getElem_cons h]
  simp [h]
theorem getD_drop (zs : List Int) (p j : Nat) : (zs.drop p).getD j 0 = zs.getD (p + j) 0 := by
  rw [List.getD_eq_getElem?_getD, List.getD_eq_getElem?_getD, List.getElem?_drop]

theorem next_none (h : Nat) (A : Option Addr) (n cap p : Nat) (zs : List Int) (bad : Bool) (w : World) (t : Doc w h A n cap p zs bad) (hn : bad = true ∨ nextS (zs.drop p) = none) :
    Calls Tryz.prog 205 #[.pointer (some ⟨h, 0, none⟩)] w (NextIs w 0 false 0) := by
  cases bad with
  | true => exact next_bad h A n cap p w t.1
  | false =>
    have hns : nextS (zs.drop p) = none := by
      rcases hn with h | h
      · cases h
      · exact h
    clear hn
    by_cases hp : p < n
    · obtain ⟨b, off, rfl, hc⟩ := t.at hp
      obtain ⟨t3, hr, _, _, hm⟩ := t
      have hl := hr.1
      have c0 := hc p hp
      have hby := hr.2.2.1
      have hcb := getD_byte hby p (by omega)
      rw [drop_cons zs p (by omega)] at hns
      have hrl : (zs.drop (p + 1)).length = n - (p + 1) := by rw [List.length_drop]; omega
      have lead : p + 1 < n → (zs.drop (p + 1)).getD 0 0 = 0 → w.cell? ⟨b, off + (p + 1), none⟩ = some (.int .u8 0) := by
        intro h1 h2
        rw [hc (p + 1) h1]
        rw [getD_drop, Nat.add_zero] at h2
        rw [h2]
      generalize zs.getD p 0 = c at *
      generalize zs.drop (p + 1) = r at *
      rcases byte_cases c hcb.1 hcb.2 with ⟨k, hk, rfl⟩ | ⟨q, hq, rfl⟩
      · rw [nextS_low k r hk] at hns
        by_cases hok : okD r k
        · rw [if_pos hok] at hns; cases hns
        · by_cases h8 : 8 < k
          · exact next_pos_big h b off n cap p k w t3 hp c0 hk h8
          · by_cases hs : n < p + 1 + k
            · exact next_pos_short h b off n cap p k w t3 hp hm c0 hk (by omega) hs
            · have hk0 : 0 < k := by
                rcases Nat.eq_zero_or_pos k with h0 | h0
                · exact absurd ⟨by omega, by omega, .inl h0⟩ hok
                · exact h0
              have hz : r.getD 0 0 = 0 := by
                by_cases h0 : r.getD 0 0 = 0
                · exact h0
                · exact absurd ⟨by omega, by omega, .inr h0⟩ hok
              exact next_pos_lead h b off n cap p k w t3 hp hm c0 (by omega) (by omega) hk0 (lead (by omega) hz)
      · rw [nextS_high] at hns
        by_cases hq0 : q = 0
        · exact next_neg_zero h b off n cap p q w t3 hp hm c0 hq0
        · by_cases hok : okD r q
          · rw [if_pos ⟨by omega, hok⟩] at hns; cases hns
          · by_cases h8 : 8 < q
            · exact next_neg_big h b off n cap p q w t3 hp c0 hq h8
            · by_cases hs : n < p + 1 + q
              · exact next_neg_short h b off n cap p q w t3 hp hm c0 hq (by omega) hs
              · have hz : r.getD 0 0 = 0 := by
                  by_cases h0 : r.getD 0 0 = 0
                  · exact h0
                  · exact absurd ⟨by omega, by omega, .inr h0⟩ hok
                exact next_neg_lead h b off n cap p q w t3 hp hm c0 (by omega) (by omega) (by omega) (lead (by omega) hz)
    · exact next_end h A n cap p w t.1 (by omega)

theorem next_some (h : Nat) (A : Option Addr) (n cap p : Nat) (zs : List Int) (w : World) (t : Doc w h A n cap p zs false) (v : Nat) (neg : Bool) (kk : Nat) (hns : nextS (zs.drop p) = some (v, neg, kk)) :
    Calls Tryz.prog 205 #[.pointer (some ⟨h, 0, none⟩)] w (NextIs w (v : Int) neg (kk : Int)) := by
  have hl := t.2.1.1
  by_cases hp : p < n
  · obtain ⟨b, off, rfl, hc⟩ := t.at hp
    obtain ⟨t3, hr, _, _, hm⟩ := t
    have c0 := hc p hp
    have hby := hr.2.2.1
    have hcb := getD_byte hby p (by omega)
    rw [drop_cons zs p (by omega)] at hns
    have hrl : (zs.drop (p + 1)).length = n - (p + 1) := by rw [List.length_drop]; omega
    have hrb : Bytes (zs.drop (p + 1)) := bytes_drop hby _
    have cells : ∀ c, p + 1 + c ≤ n → ∀ j, j < c → w.cell? ⟨b, off + (p + 1 + j), none⟩ = some (.int .u8 ((zs.drop (p + 1)).getD j 0)) := by
      intro c h1 j hj
      rw [hc (p + 1 + j) (by omega), getD_drop]
    generalize zs.getD p 0 = c at *
    generalize zs.drop (p + 1) = r at *
    rcases byte_cases c hcb.1 hcb.2 with ⟨k, hk, rfl⟩ | ⟨q, hq, rfl⟩
    · rw [nextS_low k r hk] at hns
      by_cases hok : okD r k
      · rw [if_pos hok] at hns
        simp only [Option.some.injEq, Prod.mk.injEq] at hns
        obtain ⟨rfl, rfl, rfl⟩ := hns
        obtain ⟨h8, hkl, hz⟩ := hok
        rw [show ((k + 1 : Nat) : Int) = (k : Int) + 1 by omega]
        by_cases hk0 : k = 0
        · exact next_pos_zero h b off n cap p k r w t3 hp hm c0 h8 (by omega) hrl hrb (cells k (by omega)) hk0
        · have c1 := cells 1 (by omega) 0 (by omega)
          rw [Nat.add_zero] at c1
          refine next_pos_ok h b off n cap p k r w t3 hp hm c0 h8 (by omega) hrl hrb (cells k (by omega)) (by omega) _ c1 ?_
          rcases hz with hz | hz
          · exact absurd hz hk0
          · simpa using hz
      · rw [if_neg hok] at hns; cases hns
    · rw [nextS_high] at hns
      by_cases hok : 0 < q ∧ okD r q
      · rw [if_pos hok] at hns
        simp only [Option.some.injEq, Prod.mk.injEq] at hns
        obtain ⟨rfl, rfl, rfl⟩ := hns
        obtain ⟨hq0, h8, hkl, hz⟩ := hok
        rw [show ((q + 1 : Nat) : Int) = (q : Int) + 1 by omega]
        have c1 := cells 1 (by omega) 0 (by omega)
        rw [Nat.add_zero] at c1
        refine next_neg_ok h b off n cap p q r w t3 hp hm c0 h8 (by omega) hrl hrb (cells q (by omega)) (by omega) _ c1 ?_
        rcases hz with hz | hz
        · omega
        · simpa using hz
      · rw [if_neg hok] at hns; cases hns
  · rw [List.drop_of_length_le (by omega)] at hns
    cases hns
end Go.Proofs.YtnppomiggajhnaaGreatDoor.Fld

namespace Go.Proofs.YtnppomiggajhnaaGreatDoor.Fld
open Go.RowKit

theorem Three.lt {w : World} {h : Nat} {A : Option Addr} {n cap k : Nat} {bad : Bool} (t : Three w h A n cap k bad) : h < w.heap.size := by
  rcases Nat.lt_or_ge h w.heap.size with h' | h'
  · exact h'
  · unfold Three at t; rw [Array.getElem?_eq_none h'] at t; cases t
theorem Three.of_block {w w' : World} {h : Nat} {A : Option Addr} {n cap k : Nat} {bad : Bool} (t : Three w h A n cap k bad) (hb : w'.heap[h]? = w.heap[h]?) : Three w' h A n cap k bad := hb.trans t
theorem Three.set1 {w : World} {h : Nat} {A : Option Addr} {n cap k : Nat} {bad : Bool} (t : Three w h A n cap k bad) (x : Int) (k' : Nat) (hx : x = (k' : Int)) : Three (w.setCell ⟨h, 1, none⟩ (.int .i64 x)) h A n cap k' bad := by
  subst hx
  exact heap_setCell_same w h 1 _ _ _ t
theorem Three.set2 {w : World} {h : Nat} {A : Option Addr} {n cap k : Nat} {bad : Bool} (t : Three w h A n cap k bad) : Three (w.setCell ⟨h, 2, none⟩ (.bool true)) h A n cap k true :=
  heap_setCell_same w h 2 _ _ _ t
theorem Three.still {w w' : World} {h : Nat} {A : Option Addr} {n cap k : Nat} {bad : Bool} (t : Three w h A n cap k bad) (hs : Still w w') : Three w' h A n cap k bad := t.of_block (by rw [hs.1])
theorem Rd.chg3 {w w' : World} {h : Nat} {A : Option Addr} {m : Nat} {zs : List Int} (hr : Rd w A m zs) (hc : Chg h w w') {A' : Option Addr} {n cap k : Nat} {bad : Bool} (t : Three w h A' n cap k bad) : Rd w' A m zs := by
  refine hr.of_same fun a c ha => ?_
  have hlt := lt_of_cell ha
  have hne : a.block ≠ h := by
    rintro rfl
    unfold World.cell? at ha
    rw [t] at ha
    obtain ⟨b, off, sp⟩ := a
    rcases off with _ | _ | _ | off
    · cases sp <;> simp at ha
    · cases sp <;> simp at ha
    · cases sp <;> simp at ha
    · cases sp <;> simp at ha
  exact World.cell?_of_block (w := w) (hc.block _ hlt hne)
theorem Rd.still {w w' : World} {A : Option Addr} {m : Nat} {zs : List Int} (hr : Rd w A m zs) (hs : Still w w') : Rd w' A m zs := hr.of_same fun a _ _ => hs.cell a

/-- the document's reader, with what is left to read -/
def DocR (w : World) (h : Nat) (rest : List Int) (bad : Bool) : Prop := ∃ A n cap p zs, Doc w h A n cap p zs bad ∧ rest = zs.drop p
def DGot (h : Nat) (w : World) (v : Value) (rest : List Int) (bad : Bool) (e : Ending) (w' : World) : Prop := e = .returned v ∧ Chg h w w' ∧ DocR w' h rest bad
theorem Doc.moved {w w1 : World} {h : Nat} {A : Option Addr} {n cap p : Nat} {zs : List Int} (t : Doc w h A n cap p zs false) (hs : Still w w1) (x : Int) (k : Nat) (hx : x = ((p + k : Nat) : Int)) (hk : k ≤ (zs.drop p).length) (v : Value) :
    DGot h w v ((zs.drop p).drop k) false (.returned v) (w1.setCell ⟨h, 1, none⟩ (.int .i64 x)) := by
  obtain ⟨t3, hr, hp, hnc, hm⟩ := t
  have hc : Chg h w1 (w1.setCell ⟨h, 1, none⟩ (.int .i64 x)) := (Chg.refl h w1).setCell _ (.inl rfl) _
  have hl := hr.1
  rw [List.length_drop] at hk
  exact ⟨rfl, ((Chg.refl h w).still hs).trans hc, A, n, cap, p + k, zs, ⟨(t3.still hs).set1 x _ hx, (hr.still hs).chg3 hc (t3.still hs), by omega, hnc, hm⟩, by rw [List.drop_drop]⟩
theorem Doc.amiss {w w1 : World} {h : Nat} {A : Option Addr} {n cap p : Nat} {zs : List Int} {bad : Bool} (t : Doc w h A n cap p zs bad) (hs : Still w w1) (v : Value) :
    DGot h w v (zs.drop p) true (.returned v) (w1.setCell ⟨h, 2, none⟩ (.bool true)) := by
  obtain ⟨t3, hr, hp, hnc, hm⟩ := t
  have hc : Chg h w1 (w1.setCell ⟨h, 2, none⟩ (.bool true)) := (Chg.refl h w1).setCell _ (.inl rfl) _
  exact ⟨rfl, ((Chg.refl h w).still hs).trans hc, A, n, cap, p, zs, ⟨(t3.still hs).set2, (hr.still hs).chg3 hc (t3.still hs), hp, hnc, hm⟩, rfl⟩

set_option maxHeartbeats 800000 in
theorem dnum_ok (h : Nat) (rest : List Int) (w : World) (t : DocR w h rest false) (v : Nat) (r : List Int) (hc : cutNum rest = some (v, r)) (most : Int) (hm : (v : Int) ≤ most) :
    Calls Tryz.prog 172 #[.pointer (some ⟨h, 0, none⟩), .int .u64 most] w (DGot h w (.int .u64 (v : Int)) r false) := by
  obtain ⟨A, n, cap, p, zs, t, rfl⟩ := t
  obtain ⟨k, hn, hk0, hkl, rfl, _⟩ := cutNum_next _ (bytes_drop t.2.1.2.2.1 p) v r hc
  have HT := Lib.hid t
  have HN := Lib.hid (next_some h A n cap p zs w t v false k hn)
  have HKL := Lib.hid hkl
  have hpk : p + k ≤ 140737488351232 := by
    have := t.2.1.1
    have := t.2.2.2.2
    have := t.2.2.1
    rw [List.length_drop] at hkl
    omega
  clear t hc hn hkl
  have d1 : ((k : Int) == 0) = false := by simp; omega
  have d2 : decide (most < (v : Int)) = false := by simp; omega
  go_enter Tryz.func172, Tryz.ntmps172
  go_wp2_with fail
  refine HN.out.mono ?_
  rintro e w1 ⟨rfl, hst⟩
  have ht := HT.out.1.still hst
  have HST := Lib.hid hst
  obtain ⟨_, c1, _, f1, _⟩ := ht.cells
  clear ht hst
  go_wp2
  go_ret
  exact HT.out.moved HST.out _ k (by omega) HKL.out _

set_option maxHeartbeats 800000 in
theorem dnum_bad (h : Nat) (rest : List Int) (bad : Bool) (w : World) (t : DocR w h rest bad) (most : Int) (hc : bad = true ∨ cutNum rest = none ∨ ∃ v r, cutNum rest = some (v, r) ∧ most < (v : Int)) :
    Calls Tryz.prog 172 #[.pointer (some ⟨h, 0, none⟩), .int .u64 most] w (DGot h w (.int .u64 0) rest true) := by
  obtain ⟨A, n, cap, p, zs, t, rfl⟩ := t
  have hby := bytes_drop t.2.1.2.2.1 p
  have HT := Lib.hid t
  have cases3 : (bad = true ∨ nextS (zs.drop p) = none) ∨ (bad = false ∧ ∃ v k, nextS (zs.drop p) = some (v, true, k + 1)) ∨ (bad = false ∧ ∃ v k, nextS (zs.drop p) = some (v, false, k) ∧ 0 < k ∧ most < (v : Int)) := by
    cases bad with
    | true => exact .inl (.inl rfl)
    | false =>
      rcases hc with h | h | ⟨v, r, h, hv⟩
      · cases h
      · rcases cutNum_none _ hby h with h1 | h1
        · exact .inl (.inr h1)
        · exact .inr (.inl ⟨rfl, h1⟩)
      · obtain ⟨k, hn, hk0, _⟩ := cutNum_next _ hby v r h
        exact .inr (.inr ⟨rfl, v, k, hn, hk0, hv⟩)
  clear hc hby
  rcases cases3 with hn | ⟨rfl, v, k, hn⟩ | ⟨rfl, v, k, hn, hk0, hv⟩
  · have HN := Lib.hid (next_none h A n cap p zs bad w t hn)
    clear t hn
    go_enter Tryz.func172, Tryz.ntmps172
    go_wp2_with fail
    refine HN.out.mono ?_
    rintro e w1 ⟨rfl, hst⟩
    have ht := HT.out.1.still hst
    have HST := Lib.hid hst
    obtain ⟨_, _, c2, _, f2⟩ := ht.cells
    clear ht hst
    go_wp2
    go_ret
    exact HT.out.amiss HST.out _
  · have HN := Lib.hid (next_some h A n cap p zs w t v true (k + 1) hn)
    clear t hn
    have d1 : ((k : Int) + 1 == 0) = false := by simp; omega
    go_enter Tryz.func172, Tryz.ntmps172
    go_wp2_with fail
    refine HN.out.mono ?_
    rintro e w1 ⟨rfl, hst⟩
    have ht := HT.out.1.still hst
    have HST := Lib.hid hst
    obtain ⟨_, _, c2, _, f2⟩ := ht.cells
    clear ht hst
    go_wp2
    go_ret
    exact HT.out.amiss HST.out _
  · have HN := Lib.hid (next_some h A n cap p zs w t v false k hn)
    clear t hn
    have d1 : ((k : Int) == 0) = false := by simp; omega
    go_enter Tryz.func172, Tryz.ntmps172
    go_wp2_with fail
    refine HN.out.mono ?_
    rintro e w1 ⟨rfl, hst⟩
    have ht := HT.out.1.still hst
    have HST := Lib.hid hst
    obtain ⟨_, _, c2, _, f2⟩ := ht.cells
    clear ht hst
    go_wp2
    go_ret
    exact HT.out.amiss HST.out _

set_option maxHeartbeats 800000 in
theorem dwhole_any (h : Nat) (rest : List Int) (bad : Bool) (w : World) (t : DocR w h rest bad) : Calls Tryz.prog 173 #[.pointer (some ⟨h, 0, none⟩)] w fun e w' => e = .returned (.bool (wholeB rest bad)) ∧ ∃ k, w' = w.drewN k := by
  obtain ⟨A, n, cap, p, zs, t, rfl⟩ := t
  obtain ⟨t0, t1, t2, _, _⟩ := t.1.cells
  have hl := t.2.1.1
  have hpn := t.2.2.1
  have hm := t.2.2.2.2
  have HW := Lib.hid (show wholeB (zs.drop p) bad = (!bad && ((p : Int) == (n : Int))) by
    rw [wholeB]
    congr 1
    rw [Bool.eq_iff_iff]
    simp only [decide_eq_true_eq, beq_iff_eq, List.drop_eq_nil_iff]
    omega)
  clear t hl
  rw [HW.out]
  cases bad
  all_goals
    go_enter Tryz.func173, Tryz.ntmps173
    go_wp2_with fail
    go_quiet (fail)
    go_wp2
    go_ret
    exact ⟨rfl, _, rfl⟩
end Go.Proofs.YtnppomiggajhnaaGreatDoor.Fld

namespace Go.Proofs.YtnppomiggajhnaaGreatDoor.Fld
open Go.RowKit

end Go.Proofs.YtnppomiggajhnaaGreatDoor.Fld

namespace Go.Proofs.YtnppomiggajhnaaGreatDoor.Fld
open Go.RowKit

set_option maxRecDepth 100000 in
/-- append of whatever bytes to bytes of the call's own, at a step of a region that draws its order -/
theorem step_append_rd {w : World} {ops : Array Oper} {o : Oper} {a : Act} {K : Act → World → Prop} {Q : Exit → Act → World → Prop} {E : Prop} (hgd : o.guard = none) (s x : Operand)
    (ho : o.op = .call { callee := .builtin .append, args := #[s, x], argTypes := #[61, 61] })
    (w0 : World) (v : Value) (zs : List Int) (hs : a.eval s = v) (hown : Own w0 w v zs)
    (ad : Addr) (n c : Nat) (ys : List Int) (hx : a.eval x = .slice (some ad) n c) (hr : Rd w (some ad) n ys) (hb : zs.length + n ≤ 140737488355328)
    (h : ∀ v' w', Own w0 w' v' (zs ++ ys) → w.grownBy w' v.ownBlock → K (a.put o.dst v') w') : if Region.wanted o (yielded ops a.tmps) = true then Oper.wp Tryz.prog o a w K Q else E := by
  have hw : Region.wanted o (yielded ops a.tmps) = true := by simp [Region.wanted, hgd]
  rw [if_pos hw]
  obtain ⟨i, hi, hz, hsz, hby⟩ := byte_info
  obtain ⟨hb1, hby1, hrow⟩ := hown
  obtain ⟨hl, hm, hby2, hc⟩ := hr
  have hcat := bytes_append hby1 hby2
  obtain ⟨v', w', hrun, hrow', hg, _, _⟩ := run_append_own_at (P := Tryz.prog) w w0.heap.size 61 o.type 5 i _ 1 1 Tryz.underlying61 hi hz hsz hby rfl (by omega) v _ _ hrow ad n c (by8 ys) (by rw [by8_length]; omega) (by
    intro j u hu
    have hj : j < ys.length := by
      rcases Nat.lt_or_ge j ys.length with hj | hj
      · exact hj
      · rw [List.getElem?_eq_none (by rw [by8_length]; exact hj)] at hu; cases hu
    rw [by8_at ys j hj] at hu
    obtain ⟨b, off, he, hcell⟩ := hc (by omega)
    injection he with he
    subst he
    have := hcell j (by omega)
    rw [← hu, ← this]
    congr 1
    unfold Addr.add
    split <;> simp_all) (by8_one ys) (by unfold maxLen; omega) (by omega) hb1.size
  unfold Oper.wp execOp
  simp only [ho, resolve, invoke, builtin, Sem.run_bind, Sem.run_pure, Result.andThen_ok, List.map_toArray, List.map_cons, List.map_nil, hs, hx, hrun]
  refine h v' w' ⟨hb1.grown hg hb1.size ?_, hcat, ?_⟩ hg
  · intro k hk
    rcases hrow.2 with ⟨rfl, _⟩ | ⟨g, cap, cur, rfl, hg, _⟩
    · simp [Value.ownBlock] at hk
    · simp [Value.ownBlock] at hk; omega
  · rw [List.length_append, hl, by8_append]; exact hrow'

theorem Rd.window {w : World} {b off n : Nat} {zs : List Int} (hr : Rd w (some ⟨b, off, none⟩) n zs) (f v : Nat) (h : f + v ≤ n) (a : Addr) (ha : 0 < v → a = ⟨b, off + f, none⟩) : Rd w (some a) v ((zs.drop f).take v) := by
  obtain ⟨h1, h2, h3, h4⟩ := hr
  refine ⟨by rw [List.length_take, List.length_drop]; omega, by omega, bytes_take (bytes_drop h3 f) v, fun hv => ?_⟩
  obtain ⟨b', off', he, hc⟩ := h4 (by omega)
  injection he with he
  injection he with e1 e2
  subst e1 e2
  refine ⟨b, off + f, by rw [ha hv], fun i hi => ?_⟩
  rw [Nat.add_assoc, hc (f + i) (by omega), List.getD_eq_getElem?_getD, List.getD_eq_getElem?_getD, List.getElem?_take, if_pos hi, List.getElem?_drop]
def DGotT (h : Nat) (w : World) (t rest : List Int) (bad : Bool) (e : Ending) (w' : World) : Prop := ∃ A n cap, e = .returned (.slice A n cap) ∧ Rd w' A n t ∧ Chg h w w' ∧ DocR w' h rest bad
/-- 's[f:u]' -/
theorem run_mid (b off n cap f u : Nat) (hf : f ≤ u) (hu : u ≤ cap) : ∃ a : Addr, (∀ W : World, (Instr.slice 61 (.slice (some ⟨b, off, none⟩) n cap) (some (.int .i64 (f : Int))) (some (.int .i64 (u : Int))) none).run Tryz.prog W = .ok (.slice (some a) (u - f) (cap - f)) W) ∧ (0 < u - f → a = ⟨b, off + f, none⟩) := by
  by_cases h : cap = f
  · refine ⟨⟨b, off, none⟩, fun W => ?_, fun h' => by omega⟩
    have h1 : ∀ z : Nat, (0 : Int) ≤ (z : Int) := fun z => by omega
    obtain rfl : u = f := by omega
    subst h
    go_simp
  · refine ⟨⟨b, off + f, none⟩, fun W => ?_, fun _ => rfl⟩
    have h1 : (0 : Int) ≤ (f : Int) := by omega
    have h2 : (f : Int) ≤ (u : Int) := by omega
    have h3 : (u : Int) ≤ (cap : Int) := by omega
    go_simp

set_option maxRecDepth 100000 in
set_option maxHeartbeats 1600000 in
theorem dtext_ok (h : Nat) (rest : List Int) (w : World) (t : DocR w h rest false) (tx r : List Int) (hc : cutText rest = some (tx, r)) (most : Int) (hm : (tx.length : Int) ≤ most) (hmm : most ≤ 9223372036854775807) :
    Calls Tryz.prog 176 #[.pointer (some ⟨h, 0, none⟩), .int .i64 most] w (DGotT h w tx r false) := by
  obtain ⟨A, n, cap, p, zs, t, rfl⟩ := t
  unfold cutText at hc
  cases hcn : cutNum (zs.drop p) with
  | none => rw [hcn] at hc; cases hc
  | some q =>
    obtain ⟨v, rr⟩ := q
    rw [hcn] at hc
    simp only at hc
    by_cases hvr : v ≤ rr.length
    · rw [if_pos hvr] at hc
      simp only [Option.some.injEq, Prod.mk.injEq] at hc
      obtain ⟨rfl, rfl⟩ := hc
      obtain ⟨k, hn, hk0, hkl, rfl, _⟩ := cutNum_next _ (bytes_drop t.2.1.2.2.1 p) v rr hcn
      rw [List.length_take, List.length_drop, List.length_drop] at hm
      rw [List.length_drop] at hkl
      rw [List.length_drop, List.length_drop] at hvr
      have hzl := t.2.1.1
      have hpn := t.2.2.1
      have hnc := t.2.2.2.1
      have hn47 := t.2.2.2.2
      rw [hzl] at hvr hkl hm
      obtain ⟨b, off, rfl, hcell⟩ := t.at (by omega)
      have HT := Lib.hid t
      have HN := Lib.hid (next_some h _ n cap p zs w t v false k hn)
      obtain ⟨a, hsl, hsa⟩ := run_mid b off n cap (p + k) (p + k + v) (by omega) (by omega)
      rw [show p + k + v - (p + k) = v by omega] at hsl hsa
      have HSA := Lib.hid hsa
      have HSL := Lib.hid hsl
      have HTX := Lib.hid (show ((zs.drop p).drop k).take v = (zs.drop (p + k)).take v by rw [List.drop_drop])
      have HRS := Lib.hid (show ((zs.drop p).drop k).drop v = zs.drop (p + k + v) by rw [List.drop_drop, List.drop_drop, Nat.add_assoc])
      have hmv : (v : Int) ≤ most := by omega
      clear t hcn hn hsa hsl hcell hzl hm
      have d1 : ((k : Int) == 0) = false := by simp; omega
      have d2 : decide (most < 0) = false := by simp; omega
      have d3 : decide (most < (v : Int)) = false := by simp; omega
      have d4 : decide ((n : Int) - (p : Int) - (k : Int) < (v : Int)) = false := by simp; omega
      have w1 : IntKind.u64.wrap most = most := by rw [IntKind.wrap_u64]; omega
      have w2 : IntKind.i64.wrap ((n : Int) - (p : Int)) = (n : Int) - (p : Int) := IntWalk.i64_in _ (by omega)
      have w3 : IntKind.i64.wrap ((n : Int) - (p : Int) - (k : Int)) = (n : Int) - (p : Int) - (k : Int) := IntWalk.i64_in _ (by omega)
      have w4 : IntKind.u64.wrap ((n : Int) - (p : Int) - (k : Int)) = (n : Int) - (p : Int) - (k : Int) := by rw [IntKind.wrap_u64]; omega
      go_enter Tryz.func176, Tryz.ntmps176
      go_wp2_with fail
      refine HN.out.mono ?_
      rintro e wa ⟨rfl, hst⟩
      have ht := HT.out.1.still hst
      have HST := Lib.hid hst
      obtain ⟨c0, c1, c2, f1, f2⟩ := ht.cells
      clear ht hst
      go_wp2_with fail
      go_quiet (fail)
      clear w1 w2 w3 w4 d1 d2 d3 d4
      go_wp2_with fail
      have hst2 := Still.drewN HST.out nq
      have hch : Chg h (wa.drewN nq) ((wa.drewN nq).setCell ⟨h, 1, none⟩ (.int .i64 ((p : Int) + (k : Int) + (v : Int)))) := (Chg.refl h _).setCell ⟨h, 1, none⟩ (.inl rfl) _
      have hcg := ((Chg.refl h w).still hst2).trans hch
      have hr2 := (HT.out.2.1.still hst2).chg3 hch (HT.out.1.still hst2)
      have ht2 := (HT.out.1.still hst2).set1 ((p : Int) + (k : Int) + (v : Int)) (p + k + v) (by omega)
      clear hch hst2 c0 c1 c2 f1 f2
      generalize (wa.drewN nq).setCell _ _ = W at hcg hr2 ht2 ⊢
      obtain ⟨c0, c1, _, _, _⟩ := ht2.cells
      have HCG := Lib.hid hcg
      have HR2 := Lib.hid hr2
      have HT2 := Lib.hid ht2
      have HO := Lib.hid (Own.made W W (Below.refl _ _)).drew
      unfold noneBlk at HO
      have HRW := Lib.hid (show Rd (W.alloc (.cells #[] 5)).drew (some a) v ((zs.drop (p + k)).take v) from (hr2.window (p + k) v (by omega) a HSA.out).below (((Below.refl _ _).alloc (Nat.le_refl _) _).drew))
      have hsl := HSL.out
      have hba : Below W.heap.size W (W.alloc (.cells #[] 5)) := (Below.refl _ _).alloc (Nat.le_refl _) _
      have e0 := (hba.cell (lt_of_cell c0)).trans c0
      have e1 := (hba.cell (lt_of_cell c1)).trans c1
      clear hba
      push_cast at c1 e1 hsl
      have HBD := Lib.hid (show ([] : List Int).length + v ≤ 140737488355328 by simp only [List.length_nil]; omega)
      clear hcg hr2 ht2 HSL HST HN HT
      go_region_law ((refine step_append_rd rfl _ _ rfl W (.slice (some ⟨W.heap.size, 0, none⟩) 0 0) [] rfl HO.out a v (cap - (p + k)) ((zs.drop (p + k)).take v) rfl HRW.out HBD.out ?_; intro v' w' hO hg; have HO' := Lib.hid hO; clear hO hg))
      all_goals go_wp2
      all_goals go_ret
      all_goals
        obtain ⟨A', c', hv', hs', _⟩ := HO'.out.sl v (by rw [List.nil_append, List.length_take, List.length_drop]; have := HR2.out.1; omega)
        subst hv'
        rw [HTX.out, HRS.out]
        exact ⟨A', v, c', rfl, hs'.1, HCG.out.trans (Chg.below HO'.out.1), _, _, _, p + k + v, zs, ⟨HT2.out.of_block (HO'.out.1.block h HT2.out.lt), HR2.out.below HO'.out.1, by omega, hnc, hn47⟩, rfl⟩
    · rw [if_neg hvr] at hc; cases hc
end Go.Proofs.YtnppomiggajhnaaGreatDoor.Fld

namespace Go.Proofs.YtnppomiggajhnaaGreatDoor.Dk
open Go.RowKit Go.Proofs.YtnppomiggajhnaaGreatDoor.Fld

set_option maxRecDepth 100000 in
set_option maxHeartbeats 3200000 in
theorem app1_full (g b bd bb bn : Nat) (m : List Ent) (t : St) (A : Option Addr) (n cap : Nat) (w : World) (h : Im w g b m t) (hd : w.cell? ⟨bd, 0, none⟩ = some (.pointer (some ⟨g, 0, none⟩))) (hbb : w.cell? ⟨bb, 0, none⟩ = some (.slice A n cap)) (hn : n ≤ 140737488355328) (hfit : t.room < total t.fs + n) :
    Calls Tryz.prog 86 #[.pointer (some ⟨bd, 0, none⟩), .pointer (some ⟨bb, 0, none⟩), .pointer (some ⟨bn, 0, none⟩)] w (Did w g b m (3, t)) := by
  have HI := Lib.hid h
  obtain ⟨c0, c1, c2, c3, c4, c5, c6, c7⟩ := Dsk.cells h.dsk
  have h1 := h.good.fits
  have h2 := h.good.room2
  generalize total t.fs = T at *
  generalize t.room = R at *
  have hR : (R : Int) < (T : Int) + (n : Int) := by omega
  have hw : IntKind.i64.wrap ((T : Int) + (n : Int)) = (T : Int) + (n : Int) := IntWalk.i64_in _ (by omega)
  have hdc : decide ((R : Int) < (T : Int) + (n : Int)) = true := decide_eq_true hR
  clear h
  go_enter Tryz.func86, Tryz.ntmps86
  go_wp2_with fail
  go_region
  go_wp2
  go_ret
  exact ⟨rfl, m, HI.out.below (Below.refl _ _).drew, (Fr.refl _ _).drew, fun _ hi => .inl hi⟩

set_option maxRecDepth 100000 in
set_option maxHeartbeats 3200000 in
theorem app1_ok (g b bd bb bn : Nat) (m : List Ent) (t : St) (s : ByteArray) (A : Option Addr) (n cap : Nat) (ys : List Int) (w : World) (h : Im w g b m t) (hm : t.fs.length ≤ 1000000) (hx : okN s.data.toList = true)
    (od : bd ∉ g :: b :: blks m) (ob : bb ∉ g :: b :: blks m) (on : bn ∉ g :: b :: blks m)
    (hd : w.cell? ⟨bd, 0, none⟩ = some (.pointer (some ⟨g, 0, none⟩))) (hbb : w.cell? ⟨bb, 0, none⟩ = some (.slice A n cap)) (hbn : w.cell? ⟨bn, 0, none⟩ = some (.string s))
    (hr : Rd w A n ys) (hA : A = none → cap = 0) (hn : n ≤ 140737488355328) (hfit : total t.fs + n ≤ t.room) :
    Calls Tryz.prog 86 #[.pointer (some ⟨bd, 0, none⟩), .pointer (some ⟨bb, 0, none⟩), .pointer (some ⟨bn, 0, none⟩)] w (Did w g b m (0, { t with fs := appFs s.data.toList ys t.fs })) := by
  have hs := size_of_ok hx
  have HI := Lib.hid h
  obtain ⟨c0, c1, c2, c3, c4, c5, c6, c7⟩ := Dsk.cells h.dsk
  have f2 := Dsk.free h.dsk 2
  have h1 := h.good.fits
  have h2 := h.good.room2
  have hlt := h.lt
  have hgl := h.dsk.lt
  obtain ⟨n1, n2, n3⟩ := h.ne
  have hhl := here_len h s
  have hfl := here_file h s
  obtain ⟨VA, vc, hv, _⟩ := hfl.form
  have hys : ys.length = n := hr.1
  -- the look-up
  have hval : foundV m s = .agg #[.slice VA (here m s).zs.length vc, .int .i64 ((here m s).s : Int)] := by rw [here_val, Ent.val, hv]
  have hlk := look1 (h.own.drew).drew s hs
  have hlo := fun o => look1 ((h.own.alloc o).drew.drew) s hs
  rw [hval] at hlk
  simp only [hval] at hlo
  have pd := fun o => cell_past hd o
  have pn := fun o => cell_past hbn o
  have p1 := fun o => cell_past c1 o
  have pb := fun o => cell_past hbb o
  -- append
  obtain ⟨W1, hW1⟩ : ∃ W1, W1 = (w.alloc (.cells #[.slice VA (here m s).zs.length vc, .int .i64 ((here m s).s : Int)] 95)).drew.drew := ⟨_, rfl⟩
  have hbW : Below w.heap.size w W1 := by rw [hW1]; exact ((Below.refl _ _).alloc (Nat.le_refl _) _).drew.drew
  have hO1 : Own (bare W1) W1 (.slice VA (here m s).zs.length vc) (here m s).zs := by
    have := (hfl.of_block (w' := W1) (fun i hi => hbW.block i (hfl.lt hi))).own
    rw [hv] at this
    exact this
  have hr1 := hr.below hbW
  have hN : W1.heap[w.heap.size]? = some (.cells #[.slice VA (here m s).zs.length vc, .int .i64 ((here m s).s : Int)] 95 (0, 0)) := by rw [hW1]; exact heap_alloc_new w _
  have hhb : ∀ i, (Value.slice VA (here m s).zs.length vc).ownBlock = some i → i ∈ blks m := fun i hi => (here_block h.nodup h.up (s := s) (by rw [hv]; exact hi)).1
  obtain ⟨t', ht'⟩ : ∃ t' : St, t' = { t with fs := appFs s.data.toList ys t.fs } := ⟨_, rfl⟩
  rw [← ht']
  have HST := Lib.hid ht'
  clear ht'
  have HX := Lib.hid hx
  have HBY := Lib.hid hr.2.2.1
  have HYS := Lib.hid hys
  have HFIT := Lib.hid (show total t.fs + ys.length ≤ t.room by omega)
  have HMID := Lib.hid (fun (w2 : World) (hg : W1.grownBy w2 (here m s).v.ownBlock) (v1 : Value) => app_mid h hm hs od ob on hd hbb hbn _ _ hW1 rfl hg ((here m s).zs ++ ys) v1)
  have HEND := Lib.hid (fun (w2 W4 : World) (v1 : Value) (hO : Own (bare W1) w2 v1 ((here m s).zs ++ ys)) (hg : W1.grownBy w2 (here m s).v.ownBlock) (hb : v1.ownBlock = (here m s).v.ownBlock ∨ v1.ownBlock = some W1.heap.size) hturn ho => app_end (W4 := W4) h ys hx hr.2.2.1 (by omega) _ hW1 v1 hO hg hb hturn ho)
  rw [← HST.out] at HEND
  rw [hys] at HEND
  rw [hv] at HMID HEND
  have HO1 := Lib.hid hO1
  have HR1 := Lib.hid hr1
  have HA := Lib.hid hA
  have HKN := Lib.hid (show ((here m s).zs ++ ys).length = (here m s).zs.length + n by rw [List.length_append, hys])
  subst hW1
  clear h hO1 hr1 hA hv hN hhb hbW hlt hys hr hfl hval HST HI
  generalize hT : total t.fs = T at *
  clear hT
  generalize t.room = R at *
  generalize hst : put Ent.nm = pp at *
  clear hst
  generalize hzz : (here m s).zs = zz at *
  clear hzz
  generalize (here m s).s = sk at *
  have HZL := Lib.hid (show zz.length + n ≤ 140737488355328 by omega)
  generalize hk : zz.length = k at *
  have hw : IntKind.i64.wrap ((T : Int) + (n : Int)) = (T : Int) + (n : Int) := IntWalk.i64_in _ (by omega)
  have hdc : decide ((R : Int) < (T : Int) + (n : Int)) = false := decide_eq_false (by omega)
  have HK := Lib.hid hk
  clear hk
  go_enter Tryz.func86, Tryz.ntmps86
  go_wp2_with fail
  go_region
  go_wp2_with fail
  go_region
  go_wp2_with (at_builtin; refine wpList_append_rd rfl _ _ rfl (bare _) (.slice VA k vc) zz rfl HO1.out A n cap ys rfl HA.out HR1.out (by rw [HK.out]; exact HZL.out) ?_; intro v1 w2 hO hg hat; obtain ⟨A1, c1, hv1, _, _⟩ := hO.form (k + n) HKN.out; subst hv1; obtain ⟨W4, m1, m2, m3, m4, m5, m6, m7, m8, m9, m10, m11, m12, m13, m14⟩ := HMID.out w2 hg (.slice A1 (k + n) c1); have HE := Lib.hid (HEND.out w2 W4 _ hO hg hat m3 m2); clear hO hg hat m2 m3 HMID HEND HO1 HR1)
  go_region
  go_wp2_with fail
  go_region
  go_wp2
  go_ret
  exact ⟨rfl, HE.out⟩
end Go.Proofs.YtnppomiggajhnaaGreatDoor.Dk

namespace Go.Proofs.YtnppomiggajhnaaGreatDoor.Dk
open Go.RowKit Go.Proofs.YtnppomiggajhnaaGreatDoor.Fld

/-- bytes don't lie in a disk's block -/
theorem not_dsk {w : World} {g : Nat} {room : Int} {b : Nat} {size : Int} {off fs : Bool} {fl : Int} {ag : Bool} {al : Int} (h : Dsk w g room b size off fs fl ag al) {a : Addr} {c : Int} (ha : w.cell? a = some (.int .u8 c)) : a.block ≠ g := by
  rintro rfl
  unfold World.cell? at ha
  rw [h] at ha
  obtain ⟨b, off, sp⟩ := a
  rcases off with _ | _ | _ | _ | _ | _ | _ | _ | off
  all_goals cases sp <;> simp at ha
theorem rd_fr {w w' : World} {g : Nat} {room : Int} {b : Nat} {size : Int} {off fs : Bool} {fl : Int} {ag : Bool} {al : Int} {A : Option Addr} {n : Nat} {zs : List Int} (h : Rd w A n zs) (hd : Dsk w g room b size off fs fl ag al) (hf : Fr [g] w w') : Rd w' A n zs :=
  h.of_same fun _ _ hc => World.cell?_of_block (w := w) (hf.block _ (lt_of_cell hc) (by simpa using not_dsk hd hc))
theorem app1_did (g b bd bb bn : Nat) (m : List Ent) (t : St) (s : ByteArray) (A : Option Addr) (n cap : Nat) (ys : List Int) (w : World) (h : Im w g b m t) (hm : t.fs.length ≤ 1000000) (hx : okN s.data.toList = true)
    (od : bd ∉ g :: b :: blks m) (ob : bb ∉ g :: b :: blks m) (on : bn ∉ g :: b :: blks m)
    (hd : w.cell? ⟨bd, 0, none⟩ = some (.pointer (some ⟨g, 0, none⟩))) (hbb : w.cell? ⟨bb, 0, none⟩ = some (.slice A n cap)) (hbn : w.cell? ⟨bn, 0, none⟩ = some (.string s))
    (hr : Rd w A n ys) (hA : A = none → cap = 0) (hn : n ≤ 140737488355328) :
    Calls Tryz.prog 86 #[.pointer (some ⟨bd, 0, none⟩), .pointer (some ⟨bb, 0, none⟩), .pointer (some ⟨bn, 0, none⟩)] w (Did w g b m (app1 s.data.toList ys t)) := by
  have hl := hr.1
  have e : app1 s.data.toList ys t = if t.room < total t.fs + ys.length then (3, t) else (0, { t with fs := appFs s.data.toList ys t.fs }) := rfl
  rw [e]
  split
  · exact app1_full g b bd bb bn m t A n cap w h hd hbb hn (by omega)
  · exact app1_ok g b bd bb bn m t s A n cap ys w h hm hx od ob on hd hbb hbn hr hA hn (by omega)
theorem app_enters (caps : Array Value) (w : World) : (callFunc 86 caps).run Tryz.prog w = .ok (.enter 86 caps) w := enters_of Tryz.func86 (by kernel_rfl) rfl caps w
set_option maxRecDepth 100000 in
set_option maxHeartbeats 3200000 in
theorem app_did (g b : Nat) (m : List Ent) (t : St) (s : ByteArray) (A : Option Addr) (n cap : Nat) (ys : List Int) (w : World) (h : Im w g b m t) (hm : t.fs.length ≤ 1000000) (hr : Rd w A n ys) (hA : A = none → cap = 0) (hn : n ≤ 140737488355328) :
    Calls Tryz.prog 35 #[.pointer (some ⟨g, 0, none⟩), .string s, .slice A n cap] w (Did w g b m (stAppend s.data.toList ys t)) := by
  have HM := Lib.hid (mod3 _ g b app_enters m t s (.slice A n cap) w h (app1 s.data.toList ys) fun bd bb bn W w1 hI hB hF hx od ob on hd hbb hbn => app1_did g b bd bb bn m _ s A n cap ys w1 hI (by rw [(chg_same t).2]; exact hm) hx od ob on hd hbb hbn (rd_fr (hr.below hB) (Dsk.of_block h.dsk (hB.block g h.dsk.lt)) hF) hA hn)
  clear h hr hA
  unfold stAppend
  generalize doing (okN s.data.toList) t (app1 s.data.toList ys) = r at *
  go_enter Tryz.func35, Tryz.ntmps35
  go_wp2_with (go_at_call 85; refine HM.out.mono ?_; rintro e w' ⟨rfl, hL⟩; have HL := Lib.hid hL; clear hL)
  go_ret
  exact ⟨rfl, HL.out⟩
end Go.Proofs.YtnppomiggajhnaaGreatDoor.Dk

namespace Go.Proofs.YtnppomiggajhnaaGreatDoor.Rc
open Go.RowKit
open Fld (Bytes val Rd Own past)
set_option linter.unusedVariables false

/-- a slice that holds the bytes zs, with its capacity -/
def Sl (w : World) (A : Option Addr) (n cap : Nat) (zs : List Int) : Prop := Rd w A n zs ∧ n ≤ cap ∧ cap ≤ maxLen ∧ (A = none → cap = 0)
theorem Sl.of {w : World} {A : Option Addr} {n cap : Nat} {zs : List Int} (h : Fld.Sl w A n cap zs) : Sl w A n cap zs := ⟨h.1, h.2.1, h.2.2.1, h.2.2.2.1⟩
theorem Sl.below {w w' : World} {A : Option Addr} {n cap : Nat} {zs : List Int} (h : Sl w A n cap zs) (hb : Below w.heap.size w w') : Sl w' A n cap zs := ⟨h.1.below hb, h.2⟩
theorem Sl.tail {w : World} {b off n cap : Nat} {xs : List Int} (h : Sl w (some ⟨b, off, none⟩) n cap xs) (k : Nat) (hk : k ≤ n) : Sl w (some (past ⟨b, off, none⟩ cap k)) (n - k) (cap - k) (xs.drop k) :=
  Sl.of (Fld.Sl.tail ⟨h.1, h.2.1, h.2.2.1, h.2.2.2, fun a ha => by injection ha with ha; rw [← ha]⟩ k hk)
/-- 's[:u]' -/
theorem run_to (a : Addr) (n cap u : Nat) (hu : u ≤ cap) (W : World) : (Instr.slice 61 (.slice (some a) n cap) none (some (.int .i64 (u : Int))) none).run Tryz.prog W = .ok (.slice (some a) u cap) W := by
  have h1 : (0 : Int) ≤ (u : Int) := by omega
  have h3 : (u : Int) ≤ (cap : Int) := by omega
  go_simp
theorem run_to32 (a : Addr) (n cap u : Nat) (hu : u ≤ cap) (hb : u < 4294967296) (W : World) : (Instr.slice 61 (.slice (some a) n cap) none (some (.int .u32 (u : Int))) none).run Tryz.prog W = .ok (.slice (some a) u cap) W := by
  have h1 : (0 : Int) ≤ (u : Int) := by omega
  have h3 : (u : Int) ≤ (cap : Int) := by omega
  go_simp
/-- 's[f:]' -/
theorem run_from (b off n cap f : Nat) (hf : f ≤ n) (hn : n ≤ cap) (hm : cap ≤ 9223372036854775807) (W : World) : (Instr.slice 61 (.slice (some ⟨b, off, none⟩) n cap) (some (.int .i64 (f : Int))) none none).run Tryz.prog W = .ok (.slice (some (past ⟨b, off, none⟩ cap f)) (n - f) (cap - f)) W := by
  unfold past
  by_cases h : cap = f
  · obtain rfl : n = f := by omega
    subst h
    rw [if_pos rfl]
    have h1 : (0 : Int) ≤ (cap : Int) := by omega
    go_simp
  · rw [if_neg h]
    have h1 : (0 : Int) ≤ (f : Int) := by omega
    have h2 : (f : Int) ≤ (n : Int) := by omega
    have h3 : (n : Int) ≤ (cap : Int) := by omega
    go_simp
/-- 's[f:u]' -/
theorem run_part (b off n cap f u : Nat) (hf : f ≤ u) (hu : u ≤ cap) (hc : f < cap) (W : World) : (Instr.slice 61 (.slice (some ⟨b, off, none⟩) n cap) (some (.int .i64 (f : Int))) (some (.int .i64 (u : Int))) none).run Tryz.prog W = .ok (.slice (some ⟨b, off + f, none⟩) (u - f) (cap - f)) W := by
  have h0 : ¬ cap = f := by omega
  have h1 : (0 : Int) ≤ (f : Int) := by omega
  have h2 : (f : Int) ≤ (u : Int) := by omega
  have h3 : (u : Int) ≤ (cap : Int) := by omega
  go_simp
theorem Rd.part {w : World} {b off n : Nat} {zs : List Int} (hr : Rd w (some ⟨b, off, none⟩) n zs) (f v : Nat) (h : f + v ≤ n) : Rd w (some ⟨b, off + f, none⟩) v ((zs.drop f).take v) := by
  obtain ⟨h1, h2, h3, h4⟩ := hr
  refine ⟨by rw [List.length_take, List.length_drop]; omega, by omega, Fld.bytes_take (Fld.bytes_drop h3 f) v, fun hv => ?_⟩
  obtain ⟨b', off', he, hc⟩ := h4 (by omega)
  injection he with he
  injection he with e1 e2
  subst e1 e2
  refine ⟨b, off + f, rfl, fun i hi => ?_⟩
  rw [Nat.add_assoc, hc (f + i) (by omega), List.getD_eq_getElem?_getD, List.getD_eq_getElem?_getD, List.getElem?_take, if_pos hi, List.getElem?_drop]
theorem sl_addr {w : World} {A : Option Addr} {n cap : Nat} {zs : List Int} (h : Sl w A n cap zs) (hp : 0 < n) : ∃ b off, A = some ⟨b, off, none⟩ := by
  obtain ⟨b, off, e, _⟩ := h.1.2.2.2 hp
  exact ⟨b, off, e⟩

def Nothing (w : World) (e : Ending) (w' : World) : Prop := e = .returned (.tuple #[.slice none 0 0, .bool false]) ∧ ∃ k, w' = w.drewN k
def Found (w : World) (b off n cap : Nat) (t : List Int) (e : Ending) (w' : World) : Prop := e = .returned (.tuple #[.slice (some (past ⟨b, off, none⟩ cap 8)) t.length (cap - 8), .bool true]) ∧ ∃ k, w' = w.drewN k
theorem drew0 (w : World) : w.drewN 0 = w := rfl

set_option maxHeartbeats 800000 in
theorem first_short (A : Option Addr) (n cap : Nat) (w : World) (hn : n < 8) : Calls Tryz.prog 191 #[.slice A n cap] w (Nothing w) := by
  have hni : (n : Int) < 8 := by omega
  go_enter Tryz.func191, Tryz.ntmps191
  go_wp2
  go_ret2
  exact ⟨rfl, 0, rfl⟩
set_option maxRecDepth 100000 in
set_option maxHeartbeats 1600000 in
theorem first_long (b off n cap : Nat) (zs : List Int) (w : World) (hs : Sl w (some ⟨b, off, none⟩) n cap zs) (h8 : 8 ≤ n) :
    Calls Tryz.prog 191 #[.slice (some ⟨b, off, none⟩) n cap] w fun e w' => (isRec zs → Found w b off n cap (body zs) e w') ∧ (¬ isRec zs → Nothing w e w') := by
  have hnc := hs.2.1
  have hcm := hs.2.2.1
  unfold maxLen at hcm
  have hni : ¬ (n : Int) < 8 := by omega
  have r1 := run_to ⟨b, off, none⟩ n cap 4 (by omega)
  have r2 := run_part b off n cap 4 8 (by omega) (by omega) (by omega)
  have r3 := run_from b off n cap 8 h8 hnc hcm
  push_cast at r1 r2 r3
  have HS := Lib.hid hs
  have HR1 := Lib.hid (show Rd w (some ⟨b, off, none⟩) 4 (zs.take 4) from hs.1.cut 4 (by omega))
  have HR2 := Lib.hid (Rd.part hs.1 4 4 (by omega))
  have HR3 := Lib.hid (hs.tail 8 h8)
  have HZ := Lib.hid hs.1.1
  have hv := val_lt4 (zs.take 4) (by rw [List.length_take, hs.1.1]; omega) (Fld.bytes_take hs.1.2.2.1 4)
  clear hs
  go_enter Tryz.func191, Tryz.ntmps191
  go_wp2_with fail
  go_quiet (fail)
  clear r1 r2 r3
  have HD1 := Lib.hid (decode_any (some ⟨b, off, none⟩) cap (zs.take 4) (w.drewN nq) (HR1.out.drewN nq))
  have HD2 := Lib.hid (decode_any (some ⟨b, off + 4, none⟩) (cap - 4) ((zs.drop 4).take 4) (w.drewN nq) (HR2.out.drewN nq))
  have HB := Lib.hid (show body zs = (zs.drop 8).take (val (zs.take 4)) from rfl)
  generalize hV : val (zs.take 4) = V at *
  have HV := Lib.hid hV
  clear hV
  go_wp2_with fail
  refine HD1.out.mono ?_
  rintro e w1 ⟨rfl, hw1⟩
  obtain rfl := hw1
  by_cases c1 : 65536 < V
  · have c1i : (65536 : Int) < (V : Int) := by omega
    go_wp2
    go_ret2
    exact ⟨fun h => absurd h.2.1 (by rw [HV.out]; omega), fun _ => ⟨rfl, nq, rfl⟩⟩
  · have c1i : ¬ (65536 : Int) < (V : Int) := by omega
    by_cases c2 : n - 8 < V
    · have c2i : (((n - 8 : Nat) : Int) < (V : Int)) := by omega
      go_wp2
      go_ret2
      exact ⟨fun h => absurd h.2.2.1 (by rw [HV.out, HZ.out]; omega), fun _ => ⟨rfl, nq, rfl⟩⟩
    · have c2i : ¬ (((n - 8 : Nat) : Int) < (V : Int)) := by omega
      have r4 := run_to32 (past ⟨b, off, none⟩ cap 8) (n - 8) (cap - 8) V (by omega) (by omega) (w.drewN nq)
      have HR4 := Lib.hid (HR3.out.1.cut V (by omega))
      have HCS := Lib.hid (checksum_any (some ⟨b, off, none⟩) (some (past ⟨b, off, none⟩ cap 8)) 4 V cap (cap - 8) (zs.take 4) ((zs.drop 8).take V) (w.drewN nq) (HR1.out.drewN nq) (HR4.out.drewN nq))
      rw [← HB.out] at HCS HR4
      have HL := Lib.hid (show (body zs).length = V from HR4.out.1)
      have HI2 := Lib.hid (show isRec zs ↔ val ((zs.drop 4).take 4) = (Crc.sumS (zs.take 4 ++ body zs)).toNat by
        rw [Crc.sumS_append]
        exact ⟨fun h => h.2.2.2, fun h => ⟨by rw [HZ.out]; omega, by rw [HV.out]; omega, by rw [HV.out, HZ.out]; omega, h⟩⟩)
      clear HD1
      go_wp2_with fail
      refine HD2.out.mono ?_
      rintro e w1 ⟨rfl, hw1⟩
      obtain rfl := hw1
      go_wp2_with fail
      refine HCS.out.mono ?_
      rintro e w1 ⟨rfl, hw1⟩
      obtain rfl := hw1
      clear r4
      generalize val ((zs.drop 4).take 4) = X at *
      generalize (Crc.sumS (zs.take 4 ++ body zs)).toNat = Y at *
      by_cases c3 : X = Y
      · have c3i : ((X : Int) != (Y : Int)) = false := by rw [c3]; simp
        have HE := Lib.hid c3
        clear c3
        go_wp2
        go_ret2
        exact ⟨fun _ => ⟨by rw [HL.out]; rfl, nq, rfl⟩, fun h => absurd (HI2.out.2 HE.out) h⟩
      · have c3i : ((X : Int) != (Y : Int)) = true := by simp; omega
        go_wp2
        go_ret2
        exact ⟨fun h => absurd (HI2.out.1 h) c3, fun _ => ⟨rfl, nq, rfl⟩⟩
/-- what first tells -/
theorem first_yes (b off n cap : Nat) (zs : List Int) (w : World) (hs : Sl w (some ⟨b, off, none⟩) n cap zs) (hi : isRec zs) :
    Calls Tryz.prog 191 #[.slice (some ⟨b, off, none⟩) n cap] w (Found w b off n cap (body zs)) :=
  (first_long b off n cap zs w hs (by rw [← hs.1.1]; exact hi.1)).mono fun _ _ h => h.1 hi
theorem first_no (A : Option Addr) (n cap : Nat) (zs : List Int) (w : World) (hs : Sl w A n cap zs) (hi : ¬ isRec zs) :
    Calls Tryz.prog 191 #[.slice A n cap] w (Nothing w) := by
  by_cases h : n < 8
  · exact first_short A n cap w h
  · obtain ⟨b, off, rfl⟩ := sl_addr hs (by omega)
    exact (first_long b off n cap zs w hs (by omega)).mono fun _ _ h => h.2 hi
end Go.Proofs.YtnppomiggajhnaaGreatDoor.Rc
