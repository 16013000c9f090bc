/-
  That the law CrcOwn answers true and leaves memory as it was. Conditions: the slice's cells can be read (Rd).
-/
import Derived.Test.YtoaejlljicfkhaaCrcApp
namespace Go.Proofs.Ytoaejlljicfkhaa.Crc
open Go.RowKit

theorem Rd.four (w : World) (a b c d : Int) (ha : 0 ≤ a ∧ a ≤ 255) (hb : 0 ≤ b ∧ b ≤ 255) (hc : 0 ≤ c ∧ c ≤ 255) (hd : 0 ≤ d ∧ d ≤ 255) :
    Rd (w.alloc (.cells #[.int .u8 a, .int .u8 b, .int .u8 c, .int .u8 d] 5)) (some ⟨w.heap.size, 0, none⟩) 4 [a, b, c, d] := by
  refine ⟨rfl, by unfold maxLen; omega, ?_, fun _ => ⟨_, _, rfl, fun i hi => ?_⟩⟩
  · intro x hx
    simp only [List.mem_cons, List.not_mem_nil, or_false] at hx
    rcases hx with rfl | rfl | rfl | rfl <;> assumption
  · rw [World.cell?_alloc_mark, Nat.zero_add]
    rcases (show i = 0 ∨ i = 1 ∨ i = 2 ∨ i = 3 from by omega) with rfl | rfl | rfl | rfl <;> rfl

theorem Own.alloc {w0 w : World} {v : Value} {zs : List Int} (h : Own w0 w v zs) (o : Obj) : Own w0 (w.alloc o) v zs := by
  obtain ⟨hb, hby, hlen, h⟩ := h
  refine ⟨hb.alloc hb.size _, hby, hlen, ?_⟩
  rcases h with h | ⟨g, cap, cur, rfl, hg, hh, h4, h5, h6, h7⟩
  · exact .inl h
  · have lt : g < w.heap.size := by
      rcases Nat.lt_or_ge g w.heap.size with h | h
      · exact h
      · rw [Array.getElem?_eq_none h] at hh; cases hh
    exact .inr ⟨g, cap, cur, rfl, hg, (_root_.Go.heap_alloc_old _ _ lt).trans hh, h4, h5, h6, h7⟩
theorem own_num' (xs : List Int) : uv (sumS (xs ++ [uv (sumS xs) % 256, uv (sumS xs) / 256 % 256, uv (sumS xs) / 65536 % 256, uv (sumS xs) / 16777216])) = 1214729159 := by
  have h := sumS_own xs (sumS xs) rfl
  have e : uv (sumS xs) / 16777216 = uv (sumS xs) / 2 ^ 24 % 256 := by
    have := uv_lt (sumS xs)
    have := uv_nonneg (sumS xs)
    omega
  rw [e]
  exact (congrArg uv h).trans own_num

set_option maxHeartbeats 800000 in
theorem own_walk (A : Option Addr) (n cap : Nat) (xs : List Int) (w : World) (hx : Rd w A n xs) (hA : A = none → cap = 0) :
    Calls Try.prog 9 #[.slice A n cap] w fun e w' => e = .returned (.bool true) ∧ Below w.heap.size w w' := by
  have hm1 := hx.2.1
  unfold maxLen at hm1
  have HX := Lib.hid hx
  have HA := Lib.hid hA
  clear hx hA
  by_cases h1 : 1000000 < n
  · go_enter Try.func9, Try.ntmps9
    go_wp2
    go_ret
    exact ⟨rfl, Below.refl _ _⟩
  · have HO := Lib.hid (Own.made w w (Below.refl _ _))
    have HX1 := Lib.hid (HX.out.below HO.out.1)
    have hl1 := Lib.hid HX.out.1
    have b0 := uv_nonneg (sumS xs)
    have b1 := uv_le (sumS xs)
    unfold noneBlk at HO HX1
    go_enter Try.func9, Try.ntmps9
    go_wp2_with fail
    refine (sum_any _ _ _ _ _ HX.out).mono ?_
    rintro e w3 ⟨rfl, rfl⟩
    go_wp2_with (refine wpList_append_rd rfl _ _ rfl w _ [] rfl HO.out A n cap xs rfl HA.out HX1.out (by simp; omega) ?_)
    intro v1 w1 hO1
    have HO1 := Lib.hid hO1
    clear hO1
    have HF := Lib.hid (Rd.four w1 (uv (sumS xs) % 256) (uv (sumS xs) / 256 % 256) (uv (sumS xs) / 65536 % 256) (uv (sumS xs) / 16777216) (by omega) (by omega) (by omega) (by omega))
    have HO2 := Lib.hid (HO1.out.alloc (.cells #[.int .u8 (uv (sumS xs) % 256), .int .u8 (uv (sumS xs) / 256 % 256), .int .u8 (uv (sumS xs) / 65536 % 256), .int .u8 (uv (sumS xs) / 16777216)] 5))
    have HS := Lib.hid (own_num' xs)
    go_wp2_with (refine wpList_append_rd rfl _ _ rfl w _ xs rfl HO2.out _ 4 4 _ rfl (fun h => by cases h) HF.out (by rw [hl1.out]; omega) ?_)
    intro v2 w2 hO3
    obtain ⟨C, cc, hv, hrd⟩ := hO3.form (n + 4) (by rw [List.length_append, hl1.out]; rfl) (by unfold maxLen; omega)
    subst hv
    have HR := Lib.hid hrd
    have HB := Lib.hid hO3.1
    clear hrd hO3
    go_wp2_with fail
    refine (sum_any _ _ _ _ _ HR.out).mono ?_
    rintro e w4 ⟨rfl, rfl⟩
    rw [HS.out]
    go_wp2
    go_ret
    exact ⟨rfl, HB.out⟩
end Go.Proofs.Ytoaejlljicfkhaa.Crc
