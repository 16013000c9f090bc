/-
  That the law CrcLaid answers true and leaves memory as it was. Conditions: the slices' cells can be read (Rd).
-/
import Derived.Test.YtoaejlljicfkhaaCrcSplit
import Derived.Laws.MakeOwn
import Derived.Deep.OwnRows
import Derived.BigRegion
namespace Go.Proofs.Ytoaejlljicfkhaa.Crc
open Go.RowKit

theorem min_four (n1 n2 n3 : Nat) : ∃ N : Nat, N ≤ n1 ∧ N ≤ n2 ∧ N ≤ n3 ∧ N ≤ 100000 ∧
    ∀ w : World, (Builtin.min_ #[3, 3, 3, 3] 3 #[.int .i64 (n1 : Int), .int .i64 (n2 : Int), .int .i64 (n3 : Int), .int .i64 100000]).run Try.prog w = .ok (.int .i64 (N : Int)) w := by
  refine ⟨min (min (min n1 n2) n3) 100000, by omega, by omega, by omega, by omega, fun w => ?_⟩
  simp [Builtin.min_, Builtin.min2]
  congr 1
  split <;> split <;> split <;> omega

theorem Own.zeros (w : World) (N : Nat) (hN : N ≤ 100000) : Own w (w.alloc (.cells (madeCells #[.int .u8 0] N) 5)) (.slice (some ⟨w.heap.size, 0, none⟩) N N) (List.replicate N 0) := by
  refine ⟨(Below.refl _ _).alloc (Nat.le_refl _) _, ?_, by rw [by8_length]; simp, .inr ⟨w.heap.size, N, _, by rw [List.length_replicate], Nat.le_refl _, heap_alloc_new w _, by simp, by unfold maxLen; omega, by rw [size_madeCells]; simp, ?_⟩⟩
  · intro c hc
    have := (List.mem_replicate.1 hc).2
    omega
  · apply List.ext_getElem?
    intro i
    by_cases hi : i < N
    · simp [by8, madeCells, hi, Nat.mod_one]
    · simp [by8, madeCells, hi]

/-- the first k places hold what e says -/
def Laid (w : World) (g N : Nat) (e : Nat → Int) (k : Nat) (wr : World) : Prop := ∃ L : List Int, L.length = N ∧ (∀ i, i < k → L[i]? = some (e i)) ∧ Own w wr (.slice (some ⟨g, 0, none⟩) N N) L
theorem Laid.step {w wr : World} {g N k : Nat} {e : Nat → Int} (h : Laid w g N e k wr) (hk : k < N) (h0 : 0 ≤ e k ∧ e k ≤ 255) (c : Int) (hc : c = e k) : Laid w g N e (k + 1) (wr.setCell ⟨g, k, none⟩ (.int .u8 c)) := by
  subst hc
  obtain ⟨L, hl, hL, hO⟩ := h
  refine ⟨L.set k (e k), by rw [List.length_set]; exact hl, fun i hi => ?_, hO.store k _ h0.1 h0.2⟩
  by_cases hik : i = k
  · subst hik; rw [List.getElem?_set_self (by omega)]
  · rw [List.getElem?_set_ne (fun h => hik h.symm)]; exact hL i (by omega)
theorem Laid.cell {w wr : World} {g N k : Nat} {e : Nat → Int} (h : Laid w g N e k wr) (hk : k < N) : (∃ v, wr.cell? ⟨g, k, none⟩ = some (.int .u8 v)) ∧ wr.frozen? ⟨g, k, none⟩ = false := by
  obtain ⟨L, hl, hL, hO⟩ := h
  exact ⟨⟨_, (hO.cell k hk).1⟩, (hO.cell k hk).2.1⟩
theorem Laid.drew {w wr : World} {g N k : Nat} {e : Nat → Int} (h : Laid w g N e k wr) : Laid w g N e k wr.drew := by
  obtain ⟨L, hl, hL, hO⟩ := h
  exact ⟨L, hl, hL, hO.1.drew, hO.2.1, hO.2.2⟩

def xor3 (xs ys zs : List Int) (i : Nat) : Int := bits .xor .u8 (bits .xor .u8 (xs.getD i 0) (ys.getD i 0)) (zs.getD i 0)
theorem xor3_bd (xs ys zs : List Int) (i : Nat) (hx : Bytes xs) (hy : Bytes ys) (hz : Bytes zs) (h1 : i < xs.length) (h2 : i < ys.length) (h3 : i < zs.length) : 0 ≤ xor3 xs ys zs i ∧ xor3 xs ys zs i ≤ 255 := by
  have a := getD_byte hx i h1
  have b := getD_byte hy i h2
  have c := getD_byte hz i h3
  have d := xor8_bd _ _ a.1 a.2 b.1 b.2
  exact xor8_bd _ _ d.1 d.2 c.1 c.2
theorem bytes_take {xs : List Int} (h : Bytes xs) (n : Nat) : Bytes (xs.take n) := fun c hc => h c (List.mem_of_mem_take hc)
theorem laid_sum (xs ys zs L : List Int) (N : Nat) (hx : Bytes xs) (hy : Bytes ys) (hz : Bytes zs) (h1 : N ≤ xs.length) (h2 : N ≤ ys.length) (h3 : N ≤ zs.length)
    (hl : L.length = N) (hL : ∀ i, i < N → L[i]? = some (xor3 xs ys zs i)) : sumS L = sumS (xs.take N) ^^^ sumS (ys.take N) ^^^ sumS (zs.take N) := by
  rw [← sumS_lay3 _ _ _ (by simp; omega) (by simp; omega) (bytes_take hx N) (bytes_take hy N) (bytes_take hz N)]
  congr 1
  apply List.ext_getElem?
  intro i
  by_cases hi : i < N
  · rw [hL i hi]
    unfold lay xor3
    simp [List.getElem?_zipWith, hi, List.getElem?_eq_getElem (show i < xs.length by omega), List.getElem?_eq_getElem (show i < ys.length by omega), List.getElem?_eq_getElem (show i < zs.length by omega)]
  · rw [List.getElem?_eq_none (by omega), List.getElem?_eq_none]
    unfold lay
    simp
    omega
theorem Rd.cut {w : World} {A : Option Addr} {n : Nat} {xs : List Int} (h : Rd w A n xs) (N : Nat) (hN : N ≤ n) : Rd w A N (xs.take N) := by
  obtain ⟨h1, h2, h3, h4⟩ := h
  refine ⟨by rw [List.length_take]; omega, by omega, bytes_take h3 N, fun hn => ?_⟩
  obtain ⟨b, off, rfl, hc⟩ := h4 (by omega)
  refine ⟨b, off, rfl, fun i hi => ?_⟩
  rw [hc i (by omega), List.getD_eq_getElem?_getD, List.getD_eq_getElem?_getD, List.getElem?_take, if_pos hi]

theorem sum_quiet {W : World} {A : Option Addr} {n : Nat} {zs : List Int} (h : Rd W A n zs) (cap i : Nat) :
    Calls Try.prog 11 #[.slice A n cap] (W.drewN i) fun e w'' => e = .returned (.int .u32 (uv (sumS zs))) ∧ ∃ m, w'' = W.drewN m :=
  (sum_any A n cap zs (W.drewN i) h).mono fun _ _ ⟨he, hw⟩ => ⟨he, i, hw.symm⟩

set_option maxHeartbeats 1600000 in
theorem laid_walk (A : Option Addr) (n1 c1 : Nat) (xs : List Int) (B : Option Addr) (n2 c2 : Nat) (ys : List Int) (C : Option Addr) (n3 c3 : Nat) (zs : List Int) (w : World)
    (hx : Rd w A n1 xs) (hy : Rd w B n2 ys) (hz : Rd w C n3 zs) (h1 : n1 ≤ c1) (h2 : n2 ≤ c2) (h3 : n3 ≤ c3) :
    Calls Try.prog 7 #[.slice A n1 c1, .slice B n2 c2, .slice C n3 c3] w fun e w' => e = .returned (.bool true) ∧ Below w.heap.size w w' := by
  have kc := fun (w : World) (C : Array Value) (n c : Nat) => Lib.run_convert_bytes_const (P := Try.prog) w 22 5 C n c Try.underlying22 Try.underlying5
  have HX := Lib.hid hx
  have HY := Lib.hid hy
  have HZ := Lib.hid hz
  have m1 := hx.2.1
  have m2 := hy.2.1
  have m3 := hz.2.1
  unfold maxLen at m1 m2 m3
  clear hx hy hz
  obtain ⟨N, hN1, hN2, hN3, hN4, hmin⟩ := min_four n1 n2 n3
  have hmk := fun W => run_make_row' (P := Try.prog) 22 5 (.int .u8 0) 1 Try.underlying22 (by kernel_rfl) rfl .i64 .i64 N (by omega) (by omega) W
  have HO := Lib.hid (Own.zeros w N hN4)
  go_enter Try.func7, Try.ntmps7
  go_wp2_with fail
  clear hmin hmk
  go_loopw [9] (fun i wr => ∃ k : Nat, k ≤ N ∧ i = .int .i64 k ∧ Laid w w.heap.size N (xor3 xs ys zs) k wr) (fun i _ => N - (intOf i).toNat)
  case atStart => exact ⟨0, by omega, rfl, _, by simp, fun i hi => by omega, HO.out⟩
  case round =>
    obtain ⟨k, hk, rfl, hL⟩ := hrel
    by_cases hlt : k < N
    · obtain ⟨⟨v, hv⟩, hf⟩ := hL.cell hlt
      have hbel : Below w.heap.size w wr := by obtain ⟨L, _, _, hO⟩ := hL; exact hO.1
      obtain ⟨b1, o1, rfl, hc1⟩ := (HX.out.below hbel).2.2.2 (by omega)
      obtain ⟨b2, o2, rfl, hc2⟩ := (HY.out.below hbel).2.2.2 (by omega)
      obtain ⟨b3, o3, rfl, hc3⟩ := (HZ.out.below hbel).2.2.2 (by omega)
      have g1 := hc1 k (by omega)
      have g2 := hc2 k (by omega)
      have g3 := hc3 k (by omega)
      have HE := Lib.hid (show bits .xor .u8 (bits .xor .u8 (xs.getD k 0) (ys.getD k 0)) (zs.getD k 0) = xor3 xs ys zs k from rfl)
      have HBD := Lib.hid (xor3_bd xs ys zs k HX.out.2.2.1 HY.out.2.2.1 HZ.out.2.2.1 (by rw [HX.out.1]; omega) (by rw [HY.out.1]; omega) (by rw [HZ.out.1]; omega))
      generalize xs.getD k 0 = x at g1 HE
      generalize ys.getD k 0 = y at g2 HE
      generalize zs.getD k 0 = z at g3 HE
      have HL := Lib.hid (hL.step hlt HBD.out _ HE.out)
      clear hc1 hc2 hc3 hbel hL
      have e1 : (k : Int) < (n1 : Int) := by omega
      have e2 : (k : Int) < (n2 : Int) := by omega
      have e3 : (k : Int) < (n3 : Int) := by omega
      have e0 : (0 : Int) ≤ (k : Int) := by omega
      have e4 : (k : Int) < (N : Int) := by omega
      go_wp2_with fail
      go_region
      have HL2 := Lib.hid HL.out.drew
      clear g1 g2 g3 e0 e1 e2 e3 e4 hv hf
      go_wp2
      go_roundw
      case rel => exact ⟨k + 1, by omega, by go_num, HL2.out⟩
      case measure => simp [intOf]; omega
    · obtain rfl : k = N := by omega
      obtain ⟨L, hl, hLe, hO⟩ := hL
      have HSUM := Lib.hid (laid_sum xs ys zs L k HX.out.2.2.1 HY.out.2.2.1 HZ.out.2.2.1 (by rw [HX.out.1]; omega) (by rw [HY.out.1]; omega) (by rw [HZ.out.1]; omega) hl hLe)
      have hbn : Below wr.heap.size wr (wr.alloc nineBlk) := (Below.refl _ _).alloc (Nat.le_refl _) _
      have HB := Lib.hid (hO.1.trans (hbn.mono hO.1.size))
      have H1 := Lib.hid (sum_any _ 9 9 _ _ (Rd.nine wr))
      rw [nine_sum] at H1
      have HXn := Lib.hid (((HX.out.below HB.out)).cut k hN1)
      have HYn := Lib.hid (((HY.out.below HB.out)).cut k hN2)
      have HZn := Lib.hid (((HZ.out.below HB.out)).cut k hN3)
      obtain ⟨A2, cp2, hv2, hr2⟩ := hO.form k hl (by unfold maxLen; omega)
      injection hv2 with e1 e2 e3
      subst e1 e3
      have HR := Lib.hid (hr2.below hbn)
      clear hr2 hbn hO hLe
      have HLEN := Lib.hid hl
      clear hl
      unfold nineBlk at H1 HB HXn HYn HZn HR
      go_wp2_with fail
      refine H1.out.mono ?_
      rintro e w' ⟨rfl, rfl⟩
      clear kc
      have HQ := Lib.hid (show (uv (sumS L) == bits .xor .u32 (bits .xor .u32 (uv (sumS (xs.take k))) (uv (sumS (ys.take k)))) (uv (sumS (zs.take k)))) = true by rw [xor_uv, xor_uv, HSUM.out]; simp)
      clear HSUM
      have j1 : (k : Int) ≤ (c1 : Int) := by omega
      have j2 : (k : Int) ≤ (c2 : Int) := by omega
      have j3 : (k : Int) ≤ (c3 : Int) := by omega
      have j0 : (0 : Int) ≤ (k : Int) := by omega
      go_wp2_with fail
      generalize (wr.alloc _) = W at HB HXn HYn HZn HR ⊢
      go_quiet ((first | (go_at_call_of 11 (Value.slice (some ⟨w.heap.size, 0, none⟩) k k); exact sum_quiet HR.out _ _) | (go_at_call_of 11 (Value.slice A k c1); exact sum_quiet HXn.out _ _) | (go_at_call_of 11 (Value.slice B k c2); exact sum_quiet HYn.out _ _) | (go_at_call_of 11 (Value.slice C k c3); exact sum_quiet HZn.out _ _)))
      clear j0 j1 j2 j3
      have hq := HQ.out
      go_wp2
      go_ret
      exact ⟨by first | rfl | (rw [← HQ.out]; rfl), ⟨HB.out.os, HB.out.tape, HB.out.output, HB.out.size, HB.out.block⟩⟩
end Go.Proofs.Ytoaejlljicfkhaa.Crc
