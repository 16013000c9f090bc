/-
  That the law CrcSplit answers true and leaves memory as it was. Conditions: the slices' cells can be read (Rd, RdI).
-/
import Derived.Test.YtoaejlljicfkhaaCrcBurst
namespace Go.Proofs.Ytoaejlljicfkhaa.Crc
open Go.RowKit

/-- a slice that holds the whole numbers zs -/
def RdI (w : World) (A : Option Addr) (n : Nat) (zs : List Int) : Prop :=
  zs.length = n ∧ n ≤ maxLen ∧ (∀ c ∈ zs, -9223372036854775808 ≤ c ∧ c ≤ 9223372036854775807) ∧ (0 < n → ∃ b off, A = some ⟨b, off, none⟩ ∧ ∀ i, i < n → w.cell? ⟨b, off + i, none⟩ = some (.int .i64 (zs.getD i 0)))
theorem RdI.nil (w : World) : RdI w none 0 [] := ⟨rfl, by unfold maxLen; omega, fun c hc => by simp at hc, fun h => by omega⟩
theorem RdI.below {w w' : World} {A : Option Addr} {n : Nat} {zs : List Int} (h : RdI w A n zs) (hb : Below w.heap.size w w') : RdI w' A n zs := by
  obtain ⟨h1, h2, h3, h4⟩ := h
  refine ⟨h1, h2, h3, fun hn => ?_⟩
  obtain ⟨b, off, rfl, hc⟩ := h4 hn
  exact ⟨b, off, rfl, fun i hi => (hb.cell (p := ⟨b, off + i, none⟩) (lt_of_cell (hc i hi))).trans (hc i hi)⟩
theorem RdI.of_cells {w : World} {x : Addr} {len cap : Nat} {zs : List Int} (hl : len ≤ cap) (hm : cap ≤ maxLen) (hz : zs.length = cap)
    (hcell : ∀ i, i < zs.length → w.cell? (x.add i) = some (.int .i64 (zs.getD i 0))) (hwz : ∀ n ∈ zs, (Lit.int .i64 n).wf = true) : RdI w (some x) len (zs.take len) := by
  refine ⟨by rw [List.length_take]; omega, by omega, fun c hc => i64_of_wf (hwz c (List.mem_of_mem_take hc)), fun hn => ?_⟩
  obtain ⟨b, off, spot⟩ := x
  have h0 := hcell 0 (by omega)
  have hspot : spot = none := by simpa [Addr.add] using World.cell?_spot h0
  subst hspot
  refine ⟨b, off, rfl, fun i hi => ?_⟩
  have := hcell i (by omega)
  rw [List.getD_eq_getElem?_getD, List.getElem?_take, if_pos hi, ← List.getD_eq_getElem?_getD, ← this]
  congr 1
  unfold Addr.add
  split <;> simp_all

theorem take_mid (xs : List Int) (f v : Nat) (h : f ≤ v) : xs.take v = xs.take f ++ (xs.drop f).take (v - f) := by
  conv => lhs; rw [show v = f + (v - f) by omega, List.take_add]
theorem Rd.mid {w : World} {b off n : Nat} {xs : List Int} (h : Rd w (some ⟨b, off, none⟩) n xs) (f v cap : Nat) (hf : f ≤ v) (hv : v ≤ n) (hc : n ≤ cap) (A : Option Addr)
    (hA : A = if cap = f then some ⟨b, off, none⟩ else some ⟨b, off + f, none⟩) : Rd w A (v - f) ((xs.drop f).take (v - f)) := by
  obtain ⟨h1, h2, h3, h4⟩ := h
  refine ⟨by rw [List.length_take, List.length_drop]; omega, by omega, fun c hc => h3 c (List.mem_of_mem_drop (List.mem_of_mem_take hc)), fun hn => ?_⟩
  obtain ⟨b', off', he, hcell⟩ := h4 (by omega)
  injection he with he
  injection he with e1 e2
  subst e1 e2
  rw [if_neg (by omega)] at hA
  refine ⟨b, off + f, hA, fun i hi => ?_⟩
  rw [Nat.add_assoc, hcell (f + i) (by omega)]
  rw [List.getD_eq_getElem?_getD, List.getD_eq_getElem?_getD, List.getElem?_take, if_pos hi, List.getElem?_drop]

theorem Rd.zero (w : World) (A : Option Addr) : Rd w A 0 [] := ⟨rfl, by unfold maxLen; omega, fun c hc => by simp at hc, fun h => by omega⟩

set_option maxHeartbeats 800000 in
theorem split_walk (b off n cap : Nat) (xs : List Int) (B : Option Addr) (m cbp : Nat) (ks : List Int) (w : World) (hx : Rd w (some ⟨b, off, none⟩) n xs) (hnc : n ≤ cap) (hcm : cap ≤ maxLen) (hk : RdI w B m ks) :
    Calls Try.prog 10 #[.slice (some ⟨b, off, none⟩) n cap, .slice B m cbp] w fun e w' => e = .returned (.bool true) ∧ Below w.heap.size w w' := by
  have kc := fun (w : World) (C : Array Value) (n c : Nat) => Lib.run_convert_bytes_const (P := Try.prog) w 22 5 C n c Try.underlying22 Try.underlying5
  have hb : Below w.heap.size w (w.alloc nineBlk) := (Below.refl _ _).alloc (Nat.le_refl _) _
  have H1 := Lib.hid (sum_any _ 9 9 _ _ (Rd.nine w))
  rw [nine_sum] at H1
  have HX := Lib.hid (hx.below hb)
  have HK := Lib.hid (hk.below hb)
  have hm1 := hx.2.1
  have hm2 := hk.2.1
  unfold maxLen at hm1 hm2 hcm
  have HB := Lib.hid hb
  clear hx hk hb
  unfold nineBlk at H1 HX HK HB
  by_cases hbig : 100000 < n
  · go_enter Try.func10, Try.ntmps10
    go_wp2_with fail
    refine H1.out.mono ?_
    rintro e w' ⟨rfl, rfl⟩
    go_wp2
    go_ret
    exact ⟨rfl, HB.out⟩
  · go_enter Try.func10, Try.ntmps10
    go_wp2_with fail
    refine H1.out.mono ?_
    rintro e w' ⟨rfl, rfl⟩
    clear kc
    go_wp2
    go_loop [6, 7, 8] (fun s f i => ∃ (k j : Nat), k ≤ n ∧ j ≤ m ∧ i = .int .i64 j ∧ f = .int .i64 k ∧ s = .int .u32 (uv (sumS (xs.take k)))) (fun _ _ i => m - (intOf i).toNat)
    case atStart => exact ⟨0, 0, by omega, by omega, rfl, rfl, intu (by rw [List.take_zero]; decide)⟩
    case round =>
      obtain ⟨k, j, hk, hj, rfl, rfl, rfl⟩ := hrel
      by_cases hlt : j < m ∧ j < 50
      · obtain ⟨hl1, hl2⟩ := hlt
        obtain ⟨b2, off2, rfl, hc⟩ := HK.out.2.2.2 (by omega)
        have hcj := hc j hl1
        clear hc
        generalize ks.getD j 0 = v at hcj
        by_cases hv1 : v < k
        · go_wp2
          go_round
          case rel => exact ⟨k, j + 1, by omega, by omega, by go_num, rfl, rfl⟩
          case measure => simp [intOf]; omega
        · by_cases hv2 : (n : Int) < v
          · go_wp2
            go_round
            case rel => exact ⟨k, j + 1, by omega, by omega, by go_num, rfl, rfl⟩
            case measure => simp [intOf]; omega
          · obtain ⟨v', rfl⟩ : ∃ v' : Nat, v = v' := ⟨v.toNat, by omega⟩
            have HE := Lib.hid ((sumS_append (xs.take k) ((xs.drop k).take (v' - k))).symm.trans (by rw [← take_mid xs k v' (by omega)]))
            by_cases hck : cap = k
            · obtain rfl : n = k := by omega
              obtain rfl : cap = n := hck
              have HM := Lib.hid (HX.out.mid cap v' cap (by omega) (by omega) (by omega) _ (by rw [if_pos rfl]))
              go_wp2_with fail
              refine (add_any _ _ _ _ _ _ HM.out).mono ?_
              rintro e w' ⟨rfl, rfl⟩
              rw [HE.out]
              go_wp2
              go_round
              case rel => exact ⟨v', j + 1, by omega, by omega, by go_num, rfl, rfl⟩
              case measure => simp [intOf]; omega
            · have HM := Lib.hid (HX.out.mid k v' cap (by omega) (by omega) (by omega) _ (by rw [if_neg hck]))
              go_wp2_with fail
              refine (add_any _ _ _ _ _ _ HM.out).mono ?_
              rintro e w' ⟨rfl, rfl⟩
              rw [HE.out]
              go_wp2
              go_round
              case rel => exact ⟨v', j + 1, by omega, by omega, by go_num, rfl, rfl⟩
              case measure => simp [intOf]; omega
      · have HE := Lib.hid ((sumS_append (xs.take k) ((xs.drop k).take (n - k))).symm.trans (by rw [← take_mid xs k n hk, ← HX.out.1, List.take_length] : _ = sumS xs))
        by_cases hck : cap = k
        · obtain rfl : n = k := by omega
          obtain rfl : cap = n := hck
          have HM := Lib.hid (Rd.zero (w.alloc nineBlk) (some ⟨b, off, none⟩))
          have HZ := Lib.hid ((addS_nil (sumS (xs.take cap))).trans (by rw [← HX.out.1, List.take_length] : _ = sumS xs))
          unfold nineBlk at HM
          by_cases hjm : j < m
          all_goals
            go_wp2_with fail
            refine (add_any _ _ _ _ _ _ HM.out).mono ?_
            rintro e w' ⟨rfl, rfl⟩
            rw [HZ.out]
            go_wp2_with fail
            refine (sum_any _ _ _ _ _ HX.out).mono ?_
            rintro e w' ⟨rfl, rfl⟩
            go_wp2
            go_ret
            exact ⟨rfl, HB.out⟩
        · have HM := Lib.hid (HX.out.mid k n cap (by omega) (by omega) (by omega) _ (by rw [if_neg hck]))
          by_cases hjm : j < m
          all_goals
            go_wp2_with fail
            refine (add_any _ _ _ _ _ _ HM.out).mono ?_
            rintro e w' ⟨rfl, rfl⟩
            rw [HE.out]
            go_wp2_with fail
            refine (sum_any _ _ _ _ _ HX.out).mono ?_
            rintro e w' ⟨rfl, rfl⟩
            go_wp2
            go_ret
            exact ⟨rfl, HB.out⟩

theorem add_nil (A : Option Addr) (w : World) : Calls Try.prog 13 #[.int .u32 0, .slice A 0 0] w fun e w' => e = .returned (.int .u32 0) ∧ w = w' := by
  have h := add_any 0#32 A 0 0 [] w (Rd.zero w A)
  have e : uv (addS 0#32 []) = 0 := by decide
  have e0 : uv (0#32) = 0 := by decide
  rw [e, e0] at h
  exact h
theorem sum_nil (A : Option Addr) (w : World) : Calls Try.prog 11 #[.slice A 0 0] w fun e w' => e = .returned (.int .u32 0) ∧ w = w' := by
  have h := sum_any A 0 0 [] w (Rd.zero w A)
  have e : uv (sumS []) = 0 := by decide
  rw [e] at h
  exact h

set_option maxHeartbeats 800000 in
theorem split_nil (A B : Option Addr) (m cbp : Nat) (ks : List Int) (w : World) (hk : RdI w B m ks) :
    Calls Try.prog 10 #[.slice A 0 0, .slice B m cbp] w fun e w' => e = .returned (.bool true) ∧ Below w.heap.size w w' := by
  have kc := fun (w : World) (C : Array Value) (n c : Nat) => Lib.run_convert_bytes_const (P := Try.prog) w 22 5 C n c Try.underlying22 Try.underlying5
  have hb : Below w.heap.size w (w.alloc nineBlk) := (Below.refl _ _).alloc (Nat.le_refl _) _
  have H1 := Lib.hid (sum_any _ 9 9 _ _ (Rd.nine w))
  rw [nine_sum] at H1
  have HK := Lib.hid (hk.below hb)
  have hm2 := hk.2.1
  unfold maxLen at hm2
  have HB := Lib.hid hb
  clear hk hb
  unfold nineBlk at H1 HK HB
  go_enter Try.func10, Try.ntmps10
  go_wp2_with fail
  refine H1.out.mono ?_
  rintro e w' ⟨rfl, rfl⟩
  clear kc
  go_wp2
  go_loop [6, 7, 8] (fun s f i => ∃ (j : Nat), j ≤ m ∧ i = .int .i64 j ∧ f = .int .i64 0 ∧ s = .int .u32 0) (fun _ _ i => m - (intOf i).toNat)
  case atStart => exact ⟨0, by omega, rfl, rfl, rfl⟩
  case round =>
    obtain ⟨j, hj, rfl, rfl, rfl⟩ := hrel
    by_cases hlt : j < m ∧ j < 50
    · obtain ⟨hl1, hl2⟩ := hlt
      obtain ⟨b2, off2, rfl, hc⟩ := HK.out.2.2.2 (by omega)
      have hcj := hc j hl1
      clear hc
      generalize ks.getD j 0 = v at hcj
      by_cases hv1 : v < 0
      · go_wp2
        go_round
        case rel => exact ⟨j + 1, by omega, by go_num, rfl, rfl⟩
        case measure => simp [intOf]; omega
      · by_cases hv2 : (0 : Int) < v
        · go_wp2
          go_round
          case rel => exact ⟨j + 1, by omega, by go_num, rfl, rfl⟩
          case measure => simp [intOf]; omega
        · obtain rfl : v = 0 := by omega
          go_wp2_with fail
          refine (add_nil A _).mono ?_
          rintro e w' ⟨rfl, rfl⟩
          go_wp2
          go_round
          case rel => exact ⟨j + 1, by omega, by go_num, rfl, rfl⟩
          case measure => simp [intOf]; omega
    · by_cases hjm : j < m
      all_goals
        go_wp2_with fail
        refine (add_nil A _).mono ?_
        rintro e w' ⟨rfl, rfl⟩
        go_wp2_with fail
        refine (sum_nil A _).mono ?_
        rintro e w' ⟨rfl, rfl⟩
        go_wp2
        go_ret
        exact ⟨rfl, HB.out⟩
end Go.Proofs.Ytoaejlljicfkhaa.Crc
