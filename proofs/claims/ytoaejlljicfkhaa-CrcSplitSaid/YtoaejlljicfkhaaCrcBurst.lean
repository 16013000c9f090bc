/-
  That the law CrcBurst answers true and leaves memory as it was. Conditions: the slice's cells can be read (Rd).
-/
import Derived.Test.YtoaejlljicfkhaaCrcOwn
namespace Go.Proofs.Ytoaejlljicfkhaa.Crc
open Go.RowKit

/-- a store into a slice of the call's own -/
theorem Own.store {w0 w : World} {g n cap : Nat} {zs : List Int} (h : Own w0 w (.slice (some ⟨g, 0, none⟩) n cap) zs) (i : Nat) (c : Int) (h0 : 0 ≤ c) (h1 : c ≤ 255) :
    Own w0 (w.setCell ⟨g, i, none⟩ (.int .u8 c)) (.slice (some ⟨g, 0, none⟩) n cap) (zs.set i c) := by
  obtain ⟨hb, hby, hlen, h⟩ := h
  rcases h with ⟨h, _⟩ | ⟨g', cap', cur, he, hg, hh, h4, h5, h6, h7⟩
  · cases h
  · injection he with e1 e2 e3
    injection e1 with e1
    injection e1 with e1
    subst e1 e2 e3
    refine ⟨hb.setCell (p := ⟨g, i, none⟩) hg _, ?_, by rw [by8_length]; simp, .inr ⟨g, cap, _, by rw [List.length_set], hg, heap_setCell_same w g i cur _ _ hh, by simpa using h4, h5, by simpa using h6, ?_⟩⟩
    · intro x hx
      rcases List.mem_or_eq_of_mem_set hx with hx | rfl
      · exact hby x hx
      · exact ⟨h0, h1⟩
    · rw [Array.toList_setIfInBounds, List.length_set, List.take_set, h7]
      simp [by8, List.map_set]
theorem Own.addr {w0 w : World} {v : Value} {zs : List Int} (h : Own w0 w v zs) (n : Nat) (hn : zs.length = n) (hp : 0 < n) : ∃ g cap, v = .slice (some ⟨g, 0, none⟩) n cap ∧ w0.heap.size ≤ g := by
  subst hn
  rcases h.2.2.2 with ⟨_, h⟩ | ⟨g, cap, _, rfl, hg, _⟩
  · omega
  · exact ⟨g, cap, rfl, hg⟩
theorem Own.cell {w0 w : World} {g n cap : Nat} {zs : List Int} (h : Own w0 w (.slice (some ⟨g, 0, none⟩) n cap) zs) (i : Nat) (hi : i < n) :
    w.cell? ⟨g, i, none⟩ = some (.int .u8 (zs.getD i 0)) ∧ w.frozen? ⟨g, i, none⟩ = false ∧ zs.length = n := by
  obtain ⟨hb, hby, hlen, h⟩ := h
  rcases h with ⟨h, _⟩ | ⟨g', cap', cur, he, hg, hh, h4, h5, h6, h7⟩
  · cases h
  · injection he with e1 e2 e3
    injection e1 with e1
    injection e1 with e1
    subst e1 e2 e3
    refine ⟨?_, frozen_of_row w g i cur _ hh, rfl⟩
    rw [cell_of_row w g i cur _ (0, 0) hh, ← by8_at zs i hi, ← h7, List.getElem?_take, if_pos (by omega), Array.getElem?_toList]

/-- four neighbouring places of a list, set anew -/
theorem set_four (k : Nat) : ∀ (xs : List Int) (_ : k + 3 < xs.length) (a b c d : Int),
    (((xs.set k a).set (k + 1) b).set (k + 2) c).set (k + 3) d = xs.take k ++ [a, b, c, d] ++ xs.drop (k + 4) := by
  induction k with
  | zero =>
    intro xs h a b c d
    match xs, h with
    | x0 :: x1 :: x2 :: x3 :: r, _ => rfl
    | [], h => simp at h
    | [_], h => simp at h
    | [_, _], h => simp at h
    | [_, _, _], h => simp at h
  | succ k ih =>
    intro xs h a b c d
    match xs, h with
    | x :: r, h =>
      have := ih r (by simp at h; omega) a b c d
      rw [show k + 1 + 2 = (k + 2) + 1 by omega, show k + 1 + 3 = (k + 3) + 1 by omega, show k + 1 + 4 = (k + 4) + 1 by omega]
      simp only [List.set_cons_succ, List.take_succ_cons, List.drop_succ_cons, List.cons_append]
      rw [this]
    | [], h => simp at h
theorem take_four (k : Nat) : ∀ (xs : List Int) (_ : k + 3 < xs.length), xs = xs.take k ++ [xs.getD k 0, xs.getD (k + 1) 0, xs.getD (k + 2) 0, xs.getD (k + 3) 0] ++ xs.drop (k + 4) := by
  induction k with
  | zero =>
    intro xs h
    match xs, h with
    | x0 :: x1 :: x2 :: x3 :: r, _ => rfl
    | [], h => simp at h
    | [_], h => simp at h
    | [_, _], h => simp at h
    | [_, _, _], h => simp at h
  | succ k ih =>
    intro xs h
    match xs, h with
    | x :: r, h =>
      have := ih r (by simp at h; omega)
      rw [show k + 1 + 2 = (k + 2) + 1 by omega, show k + 1 + 3 = (k + 3) + 1 by omega, show k + 1 + 4 = (k + 4) + 1 by omega]
      simp only [List.getD_cons_succ, List.take_succ_cons, List.drop_succ_cons, List.cons_append]
      rw [← this]
    | [], h => simp at h

theorem getD_byte {xs : List Int} (h : Bytes xs) (i : Nat) (hi : i < xs.length) : 0 ≤ xs.getD i 0 ∧ xs.getD i 0 ≤ 255 := by
  have : xs.getD i 0 ∈ xs := by rw [List.getD_eq_getElem?_getD, List.getElem?_eq_getElem hi]; simp
  exact h _ this
theorem burst_sum (xs : List Int) (k : Nat) (h : k + 3 < xs.length) (hb : Bytes xs) (t : BitVec 32) (ht : t ≠ 0#32) :
    sumS xs ≠ sumS ((((xs.set k (bits .xor .u8 (xs.getD k 0) (uv t % 256))).set (k + 1) (bits .xor .u8 (xs.getD (k + 1) 0) (uv t / 256 % 256))).set (k + 2) (bits .xor .u8 (xs.getD (k + 2) 0) (uv t / 65536 % 256))).set (k + 3) (bits .xor .u8 (xs.getD (k + 3) 0) (uv t / 16777216))) := by
  rw [set_four k xs h]
  have e := take_four k xs h
  have e24 : uv t / 16777216 = uv t / 2 ^ 24 % 256 := by
    have := uv_lt t
    have := uv_nonneg t
    omega
  have hm : Bytes [xs.getD k 0, xs.getD (k + 1) 0, xs.getD (k + 2) 0, xs.getD (k + 3) 0] := by
    intro c hc
    simp only [List.mem_cons, List.not_mem_nil, or_false] at hc
    rcases hc with rfl | rfl | rfl | rfl
    · exact getD_byte hb _ (by omega)
    · exact getD_byte hb _ (by omega)
    · exact getD_byte hb _ (by omega)
    · exact getD_byte hb _ (by omega)
  have := sumS_burst (xs.take k) (xs.drop (k + 4)) _ _ t ht hm rfl rfl
  rw [← e] at this
  rw [e24]
  exact this

set_option maxHeartbeats 400000 in
theorem burst_easy (A : Option Addr) (n cap : Nat) (i : Int) (t : BitVec 32) (w : World) (hm1 : n ≤ 9223372036854775807) (h : n < 4 ∨ 1000000 < n ∨ i < 0 ∨ uv t = 0) :
    Calls Try.prog 8 #[.slice A n cap, .int .i64 i, .int .u32 (uv t)] w fun e w' => e = .returned (.bool true) ∧ Below w.heap.size w w' := by
  by_cases h1 : n < 4
  · clear h
    go_enter Try.func8, Try.ntmps8
    go_wp2
    go_ret
    exact ⟨rfl, Below.refl _ _⟩
  · by_cases h2 : 1000000 < n
    · clear h
      go_enter Try.func8, Try.ntmps8
      go_wp2
      go_ret
      exact ⟨rfl, Below.refl _ _⟩
    · by_cases h3 : i < 0
      · clear h
        go_enter Try.func8, Try.ntmps8
        go_wp2
        go_ret
        exact ⟨rfl, Below.refl _ _⟩
      · have h4 : (uv t == 0) = true := by
          rcases h with h | h | h | h
          · omega
          · omega
          · omega
          · simpa using h
        clear h
        go_enter Try.func8, Try.ntmps8
        go_wp2
        go_ret
        exact ⟨rfl, Below.refl _ _⟩

set_option maxHeartbeats 800000 in
theorem burst_walk (A : Option Addr) (n cap : Nat) (xs : List Int) (i : Int) (t : BitVec 32) (w : World) (hx : Rd w A n xs) (hA : A = none → cap = 0) (hi64 : i ≤ 9223372036854775807) :
    Calls Try.prog 8 #[.slice A n cap, .int .i64 i, .int .u32 (uv t)] w fun e w' => e = .returned (.bool true) ∧ Below w.heap.size w w' := by
  have hm1 := hx.2.1
  unfold maxLen at hm1
  by_cases he : n < 4 ∨ 1000000 < n ∨ i < 0 ∨ uv t = 0
  · exact burst_easy A n cap i t w hm1 he
  · have g1 : 4 ≤ n := by omega
    have g2 : n ≤ 1000000 := by omega
    have g3 : 0 ≤ i := by omega
    have g4 : (uv t == 0) = false := by simp; omega
    have HT := Lib.hid (show t ≠ 0#32 from fun e => by rw [e] at he; exact he (Or.inr (Or.inr (Or.inr (by decide)))))
    clear he
    have d1 : decide ((n : Int) < 4) = false := by simp; omega
    have d2 : decide ((1000000 : Int) < (n : Int)) = false := by simp; omega
    have d3 : decide (i < 0) = false := by simp; omega
    obtain ⟨k, hk⟩ : ∃ k : Nat, i % ((n : Int) - 3) = (k : Int) := ⟨(i % ((n : Int) - 3)).toNat, by have := Int.emod_nonneg i (show (n : Int) - 3 ≠ 0 by omega); omega⟩
    have hkn : k + 3 < n := by have := Int.emod_lt_of_pos i (show (0 : Int) < (n : Int) - 3 by omega); omega
    have HX := Lib.hid hx
    have HA := Lib.hid hA
    clear hx hA
    have HO := Lib.hid (Own.made w w (Below.refl _ _))
    have HX1 := Lib.hid (HX.out.below HO.out.1)
    have hl1 := Lib.hid HX.out.1
    have b0 := uv_nonneg t
    have b1 := uv_le t
    unfold noneBlk at HO HX1
    have HK := Lib.hid hk
    clear hk
    go_enter Try.func8, Try.ntmps8
    go_wp2_with (refine wpList_append_rd rfl _ _ rfl w _ [] rfl HO.out A n cap xs rfl HA.out HX1.out (by simp; omega) ?_)
    intro v1 w1 hO1
    obtain ⟨g, cp, hv, hg⟩ := hO1.addr n hl1.out (by omega)
    subst hv
    have HO1 := Lib.hid hO1
    have c0 := (hO1.cell k (by omega)).1
    have f0 := (hO1.cell k (by omega)).2.1
    have c1 := (hO1.cell (k + 1) (by omega)).1
    have f1 := (hO1.cell (k + 1) (by omega)).2.1
    have c2 := (hO1.cell (k + 2) (by omega)).1
    have f2 := (hO1.cell (k + 2) (by omega)).2.1
    have c3 := (hO1.cell (k + 3) (by omega)).1
    have f3 := (hO1.cell (k + 3) (by omega)).2.1
    clear hO1
    have hby := HX.out.2.2.1
    have r0 := getD_byte hby k (by rw [hl1.out]; omega)
    have r1 := getD_byte hby (k + 1) (by rw [hl1.out]; omega)
    have r2 := getD_byte hby (k + 2) (by rw [hl1.out]; omega)
    have r3 := getD_byte hby (k + 3) (by rw [hl1.out]; omega)
    have HN := Lib.hid (burst_sum xs k (by rw [hl1.out]; omega) hby t HT.out)
    clear hby
    generalize xs.getD k 0 = a0 at c0 r0 HN
    generalize xs.getD (k + 1) 0 = a1 at c1 r1 HN
    generalize xs.getD (k + 2) 0 = a2 at c2 r2 HN
    generalize xs.getD (k + 3) 0 = a3 at c3 r3 HN
    have s0 := xor8_bd a0 (uv t % 256) r0.1 r0.2 (by omega) (by omega)
    have s1 := xor8_bd a1 (uv t / 256 % 256) r1.1 r1.2 (by omega) (by omega)
    have s2 := xor8_bd a2 (uv t / 65536 % 256) r2.1 r2.2 (by omega) (by omega)
    have s3 := xor8_bd a3 (uv t / 16777216) r3.1 r3.2 (by omega) (by omega)
    have HW := Lib.hid ((((HO1.out.store k _ s0.1 s0.2).store (k + 1) _ s1.1 s1.2).store (k + 2) _ s2.1 s2.2).store (k + 3) _ s3.1 s3.2)
    clear s0 s1 s2 s3 r0 r1 r2 r3
    have hk := HK.out
    go_wp2_with fail
    refine (sum_any _ _ _ _ _ (HX.out.below HW.out.1)).mono ?_
    rintro e w3 ⟨rfl, rfl⟩
    obtain ⟨A2, cp2, hv2, hr2⟩ := HW.out.form n (by simp only [List.length_set]; exact hl1.out) (by unfold maxLen; omega)
    injection hv2 with e1 e2 e3
    subst e1 e3
    have HR := Lib.hid hr2
    clear hr2 hk c0 c1 c2 c3 f0 f1 f2 f3
    go_wp2_with fail
    refine (sum_any _ _ _ _ _ HR.out).mono ?_
    rintro e w3 ⟨rfl, rfl⟩
    have HNE := Lib.hid (fun e => HN.out (uv_inj e))
    clear HN
    generalize uv (sumS xs) = s1 at HNE ⊢
    generalize uv (sumS _) = s2 at HNE ⊢
    have hne : (s1 != s2) = true := by simpa using HNE.out
    go_wp2
    go_ret
    exact ⟨rfl, HW.out.1⟩
end Go.Proofs.Ytoaejlljicfkhaa.Crc
