/-
  Several texts in one: Layer 9, lists with a number taken out: without, in the program and in the document's own. Conditions: the lists can be read, and are short. Layer 9, lists with a number put in, in the program: Grow, Concat, BinarySearch, with. Conditions: the lists can be read, and are short.
-/
import Derived.Test.YtjadfpcipicckaaGreatJQuA
import Derived.Test.YtjadfpcipicckaaGreatShelf
import Derived.Lib.AppendZeros
import Derived.Deep.RegionHeld3
import Derived.Deep.RegionWith
namespace Go.Proofs.YtjadfpcipicckaaGreat.Qu
open Go.RowKit Go.Proofs.YtjadfpcipicckaaGreat.Fld
set_option linter.unusedVariables false

theorem RdI.tail {w : World} {A : Option Addr} {n : Nat} {zs : List Int} (hr : RdI w A n zs) (b off cap f : Nat) (hf : f ≤ n) (hn : n ≤ cap) (hA : A = some ⟨b, off, none⟩) : RdI w (some (past ⟨b, off, none⟩ cap f)) (n - f) (zs.drop f) := by
  obtain ⟨h1, h2, h3⟩ := hr
  refine ⟨by rw [List.length_drop, h1], by omega, fun hp => ?_⟩
  obtain ⟨b', off', he, hc⟩ := h3 (by omega)
  rw [hA] at he
  injection he with he
  injection he with e1 e2
  subst e1 e2
  unfold past
  rw [if_neg (by omega)]
  refine ⟨b, off + f, rfl, fun i hi => ?_⟩
  rw [Nat.add_assoc, hc (f + i) (by omega)]
  rw [List.getD_eq_getElem?_getD, List.getD_eq_getElem?_getD, List.getElem?_drop]
theorem RdI.cut {w : World} {A : Option Addr} {n : Nat} {zs : List Int} (hr : RdI w A n zs) (u : Nat) (hu : u ≤ n) : RdI w A u (zs.take u) := by
  obtain ⟨h1, h2, h3⟩ := hr
  refine ⟨by rw [List.length_take]; omega, by omega, fun hp => ?_⟩
  obtain ⟨b, off, rfl, hc⟩ := h3 (by omega)
  refine ⟨b, off, rfl, fun i hi => ?_⟩
  rw [hc i (by omega), List.getD_eq_getElem?_getD, List.getD_eq_getElem?_getD, List.getElem?_take, if_pos hi]
theorem run_none (W : World) : (Instr.slice 24 (.slice none 0 0) (some (.int .i64 0)) none none).run Tryz.prog W = .ok (.slice none 0 0) W := by go_simp
theorem run_zero (a : Addr) (cap : Nat) (hm : cap ≤ 9223372036854775807) (W : World) : (Instr.slice 24 (.slice (some a) 0 cap) (some (.int .i64 0)) none none).run Tryz.prog W = .ok (.slice (some a) 0 cap) W := by
  have h0 : (0 : Int) ≤ (cap : Int) := by omega
  go_simp
theorem run_upto (A : Option Addr) (n cap u : Nat) (hA : A = none → cap = 0) (hu : u ≤ cap) (W : World) : (Instr.slice 24 (.slice A n cap) none (some (.int .i64 (u : Int))) none).run Tryz.prog W = .ok (.slice A u cap) W := by
  cases A with
  | some a =>
    have h1 : (0 : Int) ≤ (u : Int) := by omega
    have h3 : (u : Int) ≤ (cap : Int) := by omega
    go_simp
  | none =>
    obtain rfl := hA rfl
    obtain rfl : u = 0 := by omega
    go_simp
theorem run_from (b off n cap f : Nat) (hf : f ≤ n) (hn : n ≤ cap) (hm : cap ≤ 9223372036854775807) (W : World) : (Instr.slice 24 (.slice (some ⟨b, off, none⟩) n cap) (some (.int .i64 (f : Int))) none none).run Tryz.prog W = .ok (.slice (some (past ⟨b, off, none⟩ cap f)) (n - f) (cap - f)) W := by
  unfold past
  by_cases h : cap = f
  · obtain rfl : n = f := by omega
    subst h
    rw [if_pos rfl]
    have h1 : (0 : Int) ≤ (cap : Int) := by omega
    go_simp
  · rw [if_neg h]
    have h1 : (0 : Int) ≤ (f : Int) := by omega
    have h2 : (f : Int) ≤ (n : Int) := by omega
    have h3 : (n : Int) ≤ (cap : Int) := by omega
    go_simp
/-- 's[f:]', wherever s lies -/
theorem tail_any {w : World} {A : Option Addr} {n cap : Nat} {zs : List Int} (hr : RdI w A n zs) (hA : A = none → cap = 0) (hn : n ≤ cap) (hm : cap ≤ 9223372036854775807) (f : Nat) (hf : f ≤ n) :
    ∃ A' cap', (∀ W, (Instr.slice 24 (.slice A n cap) (some (.int .i64 (f : Int))) none none).run Tryz.prog W = .ok (.slice A' (n - f) cap') W) ∧ RdI w A' (n - f) (zs.drop f) ∧ (A' = none → cap' = 0) ∧ n - f ≤ cap' := by
  rcases Nat.eq_zero_or_pos n with h0 | h0
  · subst h0
    obtain rfl : f = 0 := by omega
    obtain rfl : zs = [] := List.eq_nil_of_length_eq_zero hr.1
    cases A with
    | none =>
      obtain rfl := hA rfl
      exact ⟨none, 0, run_none, RdI.nil w _, fun _ => rfl, by omega⟩
    | some a => exact ⟨some a, cap, run_zero a cap hm, RdI.nil w _, (fun h => by cases h), by omega⟩
  · obtain ⟨b, off, rfl, _⟩ := hr.2.2 h0
    refine ⟨_, _, run_from b off n cap f hf hn hm, ?_, (fun h => by cases h), by omega⟩
    exact hr.tail b off cap f hf hn rfl
set_option maxRecDepth 100000 in
set_option maxHeartbeats 3200000 in
theorem without_any (A : Option Addr) (n cap : Nat) (l : List Int) (x : Int) (w : World) (hr : RdI w A n l) (hn : n ≤ 1000) :
    Calls Tryz.prog 58 #[.slice A n cap, .int .i64 x] w fun e w' => ∃ v, e = .returned v ∧ OwnI w w' v (remN l x) := by
  obtain ⟨hvl, _, hc⟩ := id hr
  have HL := Lib.hid hvl
  have HC := Lib.hid hr
  have HT := Lib.hid (remN_take l x)
  have HLE := Lib.hid (fun k => Nat.le_trans (remN_len (l.take k) x) (show (l.take k).length ≤ l.length by rw [List.length_take]; omega))
  clear hvl hc hr
  go_enter Tryz.func58, Tryz.ntmps58
  go_wp2_with fail
  go_loopw [5, 10] (fun v i wr => ∃ k : Nat, k ≤ n ∧ i = .int .i64 k ∧ OwnI w wr v (remN (l.take k) x)) (fun _ i _ => n - (intOf i).toNat)
  case atStart => exact ⟨0, Nat.zero_le _, rfl, OwnI.nil _ _ (Below.refl _ _)⟩
  case round =>
    obtain ⟨k, hk, rfl, hO⟩ := hrel
    have HO := Lib.hid hO
    clear hO
    by_cases hlt : k < n
    · obtain ⟨b, off, rfl, hcell⟩ := (RdI.below HC.out HO.out.1).2.2 (by omega)
      have hc := hcell k hlt
      clear hcell
      have hle := HLE.out k
      rw [HL.out] at hle
      have HT1 := Lib.hid (HT.out k (by rw [HL.out]; exact hlt))
      generalize l.getD k 0 = y at *
      have j1 : (k : Int) < (n : Int) := by omega
      have j0 : (0 : Int) ≤ (k : Int) := by omega
      generalize hrr : remN (l.take k) x = rr at *
      by_cases hxy : y = x
      · have q1 : (y != x) = false := by simpa using hxy
        have HT2 := Lib.hid (show remN (l.take (k + 1)) x = rr by rw [HT1.out, if_pos hxy]; simp)
        go_wp2_with fail
        go_roundw
        case rel => exact ⟨k + 1, by omega, by go_num, by rw [HT2.out]; exact HO.out⟩
        case measure => simp [intOf]; omega
      · have q1 : (y != x) = true := by simpa using hxy
        have HT2 := Lib.hid (show remN (l.take (k + 1)) x = rr ++ [y] by rw [HT1.out, if_neg hxy])
        have HO2 := Lib.hid (HO.out.below (alloc_below wr (.cells #[.int .i64 y] 3)))
        go_wp2_with (at_builtin; refine wpList_append_ints rfl _ _ rfl w _ rr rfl HO2.out _ 1 1 [y] rfl (fun h => by cases h) (rdI_one wr y) (by omega) ?_; intro v3 w3 hO3 _; have HO3 := Lib.hid hO3; clear hO3)
        go_roundw
        case rel => exact ⟨k + 1, by omega, by go_num, by rw [HT2.out]; exact HO3.out⟩
        case measure => simp [intOf]; omega
    · obtain rfl : k = n := by omega
      have HF := Lib.hid (show remN (l.take k) x = remN l x by rw [← HL.out, List.take_length])
      rw [HF.out] at HO
      go_wp2
      go_ret
      exact ⟨_, rfl, HO.out⟩
end Go.Proofs.YtjadfpcipicckaaGreat.Qu

namespace Go.Proofs.YtjadfpcipicckaaGreat.Qu
open Go.RowKit Go.Proofs.YtjadfpcipicckaaGreat.Fld
set_option linter.unusedVariables false

theorem grown_ownI (w : World) (N c : Nat) (hN : N ≤ c) (hc : c ≤ maxLen) (cs : Array Value) (hs : cs.size = c) (wd : World) (hw : wd.heap.size = w.heap.size) (hb : Below w.heap.size w wd) : OwnI w (wd.alloc (.cells cs 3)) (.slice (some ⟨wd.heap.size, 0, none⟩) 0 c) [] :=
  ⟨hb.alloc (by omega) _, rfl, .inr ⟨wd.heap.size, c, cs, rfl, by omega, heap_alloc_new wd _, Nat.zero_le _, hc, by simpa using hs, by simp [vI]⟩⟩
set_option maxRecDepth 100000 in
set_option maxHeartbeats 1600000 in
theorem grow_any (N : Nat) (w : World) (h0 : 0 < N) (hN : N ≤ 1000000) : Calls Tryz.prog 115 #[.slice none 0 0, .int .i64 (N : Int)] w (fun e w' => ∃ v, e = .returned v ∧ OwnI w w' v []) := by
  obtain ⟨i, hi, hz, hsz, hby⟩ := int_info
  have hrun := fun ty => Lib.run_append_nil_zeros (P := Tryz.prog) w 24 3 ty 3 i (.int .i64 0) .i64 .i64 Tryz.underlying24 Tryz.underlying3 hi hz N h0 (by omega) (by omega) (by rw [hby]; omega)
  have hge := grownCap_ge w N 0 3
  have hcm := grownCap_le_maxLen w N 0 3 (by unfold maxLen; omega)
  generalize grownCap w N 0 3 = gc at *
  have HO := Lib.hid (grown_ownI w N gc hge hcm (Builtin.zeroCells (Value.int .i64 0).cells N ++ Builtin.zeroCells (Value.int .i64 0).cells (gc - N)) (by rw [Array.size_append, size_zeroCells, size_zeroCells]; simp [Value.cells]; omega) w.drew rfl ⟨rfl, rfl, rfl, Nat.le_refl _, fun _ _ => rfl⟩)
  have hup : ∀ W, (Instr.slice 24 (.slice (some ⟨w.heap.size, 0, none⟩) N gc) none (some (.int .i64 0)) none).run Tryz.prog W = .ok (.slice (some ⟨w.heap.size, 0, none⟩) 0 gc) W := by
    intro W
    have h3 : (0 : Int) ≤ (gc : Int) := by omega
    go_simp
  have HR := Lib.hid hrun
  clear hrun hi hz
  have j0 : (0 : Int) < (N : Int) := by omega
  generalize Builtin.zeroCells (Value.int .i64 0).cells N ++ Builtin.zeroCells (Value.int .i64 0).cells (gc - N) = cs at *
  go_enter Tryz.func115, Tryz.ntmps115
  go_wp2_with (at_builtin; refine Lib.wpList_append_run _ rfl _ _ _ _ rfl _ _ rfl rfl _ _ (HR.out _) ?_)
  go_ret
  exact ⟨_, rfl, HO.out⟩
/-- a slice of slices of numbers -/
def RdL (w : World) (B : Option Addr) (m : Nat) (ls : List (List Int)) : Prop :=
  ls.length = m ∧ m ≤ maxLen ∧ (0 < m → ∃ b off, B = some ⟨b, off, none⟩ ∧ ∀ i, i < m → ∃ A n cap, w.cell? ⟨b, off + i, none⟩ = some (.slice A n cap) ∧ RdI w A n (ls.getD i []) ∧ (A = none → cap = 0))
theorem RdL.below {w w' : World} {B : Option Addr} {m : Nat} {ls : List (List Int)} (h : RdL w B m ls) (hb : Below w.heap.size w w') : RdL w' B m ls := by
  obtain ⟨h1, h2, h3⟩ := h
  refine ⟨h1, h2, fun hm => ?_⟩
  obtain ⟨b, off, rfl, hc⟩ := h3 hm
  refine ⟨b, off, rfl, fun i hi => ?_⟩
  obtain ⟨A, n, cap, c1, c2, c3⟩ := hc i hi
  exact ⟨A, n, cap, (hb.cell (p := ⟨b, off + i, none⟩) (lt_of_cell c1)).trans c1, c2.below hb, c3⟩
theorem rdl_three (W : World) (A B D : Option Addr) (n1 n2 n3 c1 c2 c3 : Nat) (l1 l2 l3 : List Int) (ty : TypeId) (h1 : RdI W A n1 l1) (h2 : RdI W B n2 l2) (h3 : RdI W D n3 l3) (e1 : A = none → c1 = 0) (e2 : B = none → c2 = 0) (e3 : D = none → c3 = 0) :
    RdL (W.alloc (.cells #[.slice A n1 c1, .slice B n2 c2, .slice D n3 c3] ty)) (some ⟨W.heap.size, 0, none⟩) 3 [l1, l2, l3] := by
  have hb := alloc_below W (.cells #[.slice A n1 c1, .slice B n2 c2, .slice D n3 c3] ty)
  have hk := Blk.new W #[.slice A n1 c1, .slice B n2 c2, .slice D n3 c3] ty
  refine ⟨rfl, by unfold maxLen; omega, fun _ => ⟨_, 0, rfl, fun i hi => ?_⟩⟩
  rw [Nat.zero_add]
  have : i = 0 ∨ i = 1 ∨ i = 2 := by omega
  rcases this with rfl | rfl | rfl
  · exact ⟨A, n1, c1, hk.cell 0 _ rfl, h1.below hb, e1⟩
  · exact ⟨B, n2, c2, hk.cell 1 _ rfl, h2.below hb, e2⟩
  · exact ⟨D, n3, c3, hk.cell 2 _ rfl, h3.below hb, e3⟩
theorem flat_take (ls : List (List Int)) (k : Nat) (h : k < ls.length) : (ls.take (k + 1)).flatten = (ls.take k).flatten ++ ls.getD k [] := by
  rw [List.take_add_one, List.getElem?_eq_getElem h, List.flatten_append, List.getD_eq_getElem?_getD, List.getElem?_eq_getElem h]
  simp
theorem flat_le (ls : List (List Int)) (k : Nat) : (ls.take k).flatten.length ≤ ls.flatten.length := by
  conv => rhs; rw [← List.take_append_drop k ls, List.flatten_append, List.length_append]
  omega
theorem rdl_row {w : World} {B : Option Addr} {m : Nat} {ls : List (List Int)} (h : RdL w B m ls) (i : Nat) (hi : i < m) : ∃ b off A n c, B = some ⟨b, off, none⟩ ∧ w.cell? ⟨b, off + i, none⟩ = some (.slice A n c) ∧ RdI w A n (ls.getD i []) ∧ (A = none → c = 0) := by
  obtain ⟨b, off, e, hc⟩ := h.2.2 (by omega)
  obtain ⟨A, n, c, h1, h2, h3⟩ := hc i hi
  exact ⟨b, off, A, n, c, e, h1, h2, h3⟩
set_option maxRecDepth 100000 in
set_option maxHeartbeats 3200000 in
theorem concat_any (A : Option Addr) (m cap : Nat) (ls : List (List Int)) (w : World) (hr : RdL w A m ls) (hm : m ≤ 100) (h0 : 0 < ls.flatten.length) (hz : ls.flatten.length ≤ 1000000) :
    Calls Tryz.prog 87 #[.slice A m cap] w (fun e w' => ∃ v, e = .returned v ∧ OwnI w w' v ls.flatten) := by
  have HR := Lib.hid hr
  have HL := Lib.hid hr.1
  have HLE := Lib.hid (flat_le ls)
  clear hr
  go_enter Tryz.func87, Tryz.ntmps87
  go_wp2
  go_loop [3, 11] (fun p i => ∃ k : Nat, k ≤ m ∧ i = .int .i64 k ∧ p = .int .i64 (((ls.take k).flatten.length : Nat) : Int)) (fun _ i => m - (intOf i).toNat)
  case atStart => exact ⟨0, Nat.zero_le _, rfl, rfl⟩
  case round =>
    obtain ⟨k, hk, rfl, rfl⟩ := hrel
    by_cases hlt : k < m
    · obtain ⟨b, off, A1, n1, c1, rfl, hc, hrd, _⟩ := rdl_row HR.out k hlt
      have HN := Lib.hid (show (ls.take (k + 1)).flatten.length = (ls.take k).flatten.length + n1 by rw [flat_take ls k (by rw [HL.out]; exact hlt), List.length_append, hrd.1])
      have hu := HLE.out (k + 1)
      rw [HN.out] at hu
      clear hrd
      generalize (ls.take k).flatten.length = u at *
      have j1 : ¬ ((u : Int) + (n1 : Int) < 0) := by omega
      go_wp2
      go_roundw
      case rel => exact ⟨k + 1, by omega, by go_num, by rw [HN.out]; go_num⟩
      case measure => simp [intOf]; omega
    · obtain rfl : k = m := by omega
      rw [← HL.out, List.take_length]
      have HG := Lib.hid (grow_any ls.flatten.length w h0 hz)
      generalize hfl : ls.flatten.length = u at *
      have HFL := Lib.hid hfl
      clear hfl
      rw [HL.out]
      go_wp2_with fail
      refine HG.out.mono ?_
      rintro e w1 ⟨v1, rfl, hO1⟩
      have HO1 := Lib.hid hO1
      clear hO1
      go_wp2_with fail
      go_loopw [6, 27] (fun v i wr => ∃ j : Nat, j ≤ k ∧ i = .int .i64 j ∧ OwnI w wr v (ls.take j).flatten) (fun _ i _ => k - (intOf i).toNat)
      case atStart => exact ⟨0, Nat.zero_le _, rfl, HO1.out⟩
      case round =>
        obtain ⟨j, hj, rfl, hO⟩ := hrel
        have HO := Lib.hid hO
        clear hO
        by_cases hlt2 : j < k
        · obtain ⟨b, off, A1, n1, c1, rfl, hc, hrd, hA1⟩ := rdl_row (HR.out.below HO.out.1) j hlt2
          have HF := Lib.hid (flat_take ls j (by rw [HL.out]; exact hlt2))
          have HRD := Lib.hid hrd
          have HA1 := Lib.hid hA1
          have HB := Lib.hid (show (ls.take j).flatten.length + n1 ≤ 1000000 by
            have h1 := HLE.out (j + 1)
            rw [HF.out, List.length_append, hrd.1] at h1
            omega)
          clear hrd hA1
          go_wp2_with (at_builtin; refine wpList_append_ints rfl _ _ rfl w _ (ls.take j).flatten rfl HO.out A1 n1 c1 (ls.getD j []) rfl HA1.out HRD.out HB.out ?_; intro v2 w2 hO2 _; rw [← HF.out] at hO2; have HO2 := Lib.hid hO2; clear hO2)
          go_roundw
          case rel => exact ⟨j + 1, by omega, by go_num, HO2.out⟩
          case measure => simp [intOf]; omega
        · obtain rfl : j = k := by omega
          go_wp2
          go_ret
          exact ⟨_, rfl, by have := HO.out; rwa [← HL.out, List.take_length] at this⟩
set_option maxRecDepth 100000 in
theorem search_any (A : Option Addr) (n cap : Nat) (l : List Int) (x : Int) (w : World) (hr : RdI w A n l) (hn : n ≤ 1000) (hs : l.Pairwise (· < ·)) :
    Calls Tryz.prog 95 #[.slice A n cap, .int .i64 x] w fun e w' => (∃ b, e = .returned (.tuple #[.int .i64 ((l.countP (fun y => decide (y < x)) : Nat) : Int), .bool b])) ∧ ∃ q, w' = w.drewN q := by
  rcases Nat.eq_zero_or_pos n with h0 | h0
  · subst h0
    obtain rfl : l = [] := List.eq_nil_of_length_eq_zero hr.1
    refine (Tryz.slices_BinarySearch_int_empty A cap x w).mono ?_
    rintro e w' ⟨rfl, rfl⟩
    exact ⟨⟨_, rfl⟩, 0, rfl⟩
  · obtain ⟨b, off, rfl, hc⟩ := hr.2.2 h0
    have hl := hr.1
    refine (Tryz.slices_BinarySearch_int b off n cap l x w (by omega) (by omega) (fun j hj => hc j (by omega)) ?_).mono ?_
    · rw [← hl, List.take_length]
      exact hs.imp (fun h => Int.le_of_lt h)
    · rintro e w' ⟨rfl, hq⟩
      rw [← hl, List.take_length]
      exact ⟨⟨_, rfl⟩, hq⟩
set_option maxRecDepth 100000 in
set_option maxHeartbeats 3200000 in
theorem with_any (A : Option Addr) (n cap : Nat) (l : List Int) (x : Int) (w : World) (hr : RdI w A n l) (hn : n ≤ 1000) (hs : l.Pairwise (· < ·)) (hA : A = none → cap = 0) (hnc : n ≤ cap) (hcm : cap ≤ maxLen) :
    Calls Tryz.prog 59 #[.slice A n cap, .int .i64 x] w fun e w' => ∃ v, e = .returned v ∧ OwnI w w' v (insN l x) := by
  unfold maxLen at hcm
  have HSR := Lib.hid (search_any A n cap l x w hr hn hs)
  have HCT := Lib.hid (count_take l x hs)
  have hcl : l.countP (fun y => decide (y < x)) ≤ n := by rw [← hr.1]; exact List.countP_le_length
  generalize l.countP (fun y => decide (y < x)) = p at *
  obtain ⟨A2, c2, hs2, hr2, ha2, hn2⟩ := tail_any hr hA hnc (by omega) p hcl
  have hs1 := fun W => run_upto A n cap p hA (by omega) W
  have HR1 := Lib.hid (hr.cut p hcl)
  have HR2 := Lib.hid hr2
  have HA := Lib.hid hA
  have HA2 := Lib.hid ha2
  have HLN := Lib.hid hr.1
  have HFL := Lib.hid (show [l.take p, [x], l.drop p].flatten = insN l x by rw [HCT.out.1, HCT.out.2]; simp [insN])
  clear hr hr2 ha2 hA
  go_enter Tryz.func59, Tryz.ntmps59
  go_wp2_with fail
  refine HSR.out.mono ?_
  rintro e w1 ⟨⟨b, rfl⟩, hq⟩
  have HW1 := Lib.hid (show Below w.heap.size w w1 by obtain ⟨q, rfl⟩ := hq; exact below_dr w q)
  clear hq
  have HC := Lib.hid (show Calls Tryz.prog 87 #[.slice (some ⟨w1.heap.size + 1, 0, none⟩) 3 3] ((w1.drew.alloc (.cells #[.int .i64 x] 3)).alloc (.cells #[.slice A p cap, .slice (some ⟨w1.heap.size, 0, none⟩) 1 1, .slice A2 (n - p) c2] 24)) (fun e w' => ∃ v, e = .returned v ∧ OwnI w w' v (insN l x)) by
    have hb1 : Below w1.drew.heap.size w1.drew (w1.drew.alloc (.cells #[.int .i64 x] 3)) := alloc_below _ _
    have hb2 : Below w.heap.size w (w1.drew.alloc (.cells #[.int .i64 x] 3)) := HW1.out.drew.trans (hb1.mono HW1.out.size)
    have hr3 := rdl_three (w1.drew.alloc (.cells #[.int .i64 x] 3)) A (some ⟨w1.heap.size, 0, none⟩) A2 p 1 (n - p) cap 1 c2 (l.take p) [x] (l.drop p) 24 (HR1.out.below hb2) (rdI_one w1.drew x) (HR2.out.below hb2) HA.out (fun h => by cases h) HA2.out
    have hsz : (w1.drew.alloc (.cells #[.int .i64 x] 3)).heap.size = w1.heap.size + 1 := by simp
    rw [hsz] at hr3
    refine (concat_any _ 3 3 [l.take p, [x], l.drop p] _ hr3 (by omega) (by have := HLN.out; simp; omega) (by have := HLN.out; simp; omega)).mono ?_
    rintro e w' ⟨v, rfl, hO⟩
    rw [HFL.out] at hO
    exact ⟨v, rfl, hO.since (hb2.trans ((alloc_below _ _).mono hb2.size))⟩)
  go_wp2_with fail
  go_region_with ((go_at_call 87; refine HC.out.mono ?_; rintro e w2 ⟨v2, rfl, hO2⟩; have HO2 := Lib.hid hO2; clear hO2))
  all_goals
    go_wp2
    go_ret
    exact ⟨_, rfl, HO2.out⟩
end Go.Proofs.YtjadfpcipicckaaGreat.Qu
