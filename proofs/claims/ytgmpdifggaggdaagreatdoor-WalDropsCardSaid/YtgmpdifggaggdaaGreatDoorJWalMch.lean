/-
  Several texts in one: Layer 6: the law's steps in memory; much. Conditions: the steps can be read. Layer 6: awake. Conditions: the table and the error of the shelf lie in memory (Base). Layer 6: SameEntries. Conditions: the lists can be read. Layer 6: Append and Sync over a disk that is on, as the laws call them. Conditions: the Wal and its disk lie in memory (WmX), above all that was there. Layer 6, in the program: needless; the closures of Drop; forget. Conditions: the Wal and its disk lie in memory (WmX); as each theorem states.
-/
import Derived.Test.YtgmpdifggaggdaaGreatDoorJWalGet
import Derived.Test.YtgmpdifggaggdaaGreatDoorJWalIny
import Derived.Test.YtgmpdifggaggdaaGreatDoorJDiskSn
import Derived.Test.YtgmpdifggaggdaaGreatDoorJDiskRead
import Derived.Deep.QuietTactic
import Derived.BigQuiet
import Derived.Test.YtgmpdifggaggdaaGreatDoorJWalCue
import Derived.Test.YtgmpdifggaggdaaGreatDoorJWalVal
import Derived.Test.YtgmpdifggaggdaaGreatDoorJWalScA
import Derived.Test.YtgmpdifggaggdaaGreatDoorJWalMk
namespace Go.Proofs.YtgmpdifggaggdaaGreatDoor.Wl
open Go.RowKit Go.Proofs.YtgmpdifggaggdaaGreatDoor.Fld
set_option linter.unusedVariables false

/-- a step of the law's -/
structure Stp where
  d : Int
  N : Int
  M : Int
  A : Option Addr
  n : Nat
  c : Nat
  ls : List XE
  KA : Option Addr
  kn : Nat
  kc : Nat
  ks : List Int
def Stp.cells (s : Stp) : List Value := [.int .i64 s.d, .int .i64 s.N, .int .i64 s.M, .slice s.A s.n s.c, .slice s.KA s.kn s.kc]
def Stp.At (w : World) (x : Stp) : Prop := RdX w x.A x.n x.ls ∧ Dk.RdI w x.KA x.kn x.ks
theorem rdI_below {w w' : World} {A : Option Addr} {n : Nat} {ks : List Int} (h : Dk.RdI w A n ks) (hb : Below w.heap.size w w') : Dk.RdI w' A n ks := h.fr (S := []) (Dk.Fr.below hb) (fun _ _ _ => by simp)
theorem Stp.At.below {w w' : World} {x : Stp} (h : x.At w) (hb : Below w.heap.size w w') : x.At w' := ⟨h.1.below hb, rdI_below h.2 hb⟩
/-- a slice of steps -/
def RdT (w : World) (A : Option Addr) (n : Nat) (l : List Stp) : Prop :=
  l.length = n ∧ n ≤ maxLen ∧ (0 < n → ∃ b off, A = some ⟨b, off, none⟩ ∧ ∀ i (h : i < l.length) j, j < 5 → w.cell? ⟨b, off + i * 5 + j, none⟩ = l[i].cells[j]?) ∧ ∀ x ∈ l, x.At w
theorem RdT.at5 {w w' : World} {A : Option Addr} {n : Nat} {l : List Stp} (h : RdT w A n l) (hb : Below w.heap.size w w') (k : Nat) (hk : k < l.length) : ∃ b off, A = some ⟨b, off, none⟩ ∧ ∀ j v, j < 5 → l[k].cells[j]? = some v → w'.cell? ⟨b, off + k * 5 + j, none⟩ = some v := by
  obtain ⟨b, off, hA, hc⟩ := h.2.2.1 (by have := h.1; omega)
  refine ⟨b, off, hA, fun j v hj hv => ?_⟩
  have h1 := hc k hk j hj
  rw [hv] at h1
  exact (hb.cell (lt_of_cell h1)).trans h1
theorem RdT.below {w w' : World} {A : Option Addr} {n : Nat} {l : List Stp} (h : RdT w A n l) (hb : Below w.heap.size w w') : RdT w' A n l := by
  refine ⟨h.1, h.2.1, fun hn => ?_, fun x hx => (h.2.2.2 x hx).below hb⟩
  obtain ⟨b, off, hA, hc⟩ := h.2.2.1 hn
  refine ⟨b, off, hA, fun i hi j hj => ?_⟩
  have h1 := hc i hi j hj
  obtain ⟨v, hv⟩ : ∃ v, l[i].cells[j]? = some v := by
    have : j < l[i].cells.length := hj
    exact ⟨_, List.getElem?_eq_getElem this⟩
  rw [hv] at h1 ⊢
  exact (hb.cell (lt_of_cell h1)).trans h1
def dsum (l : List XE) : Nat := (l.map fun x => x.d.length).sum
theorem dsum_take (l : List XE) (k : Nat) (h : k < l.length) : dsum (l.take (k + 1)) = dsum (l.take k) + l[k].d.length := by
  unfold dsum
  rw [List.take_add_one, List.getElem?_eq_getElem h, List.map_append, List.sum_append]
  simp only [Option.toList_some, List.map_cons, List.map_nil, List.sum_cons, List.sum_nil, Nat.add_zero]
def Stp.wt (x : Stp) : Nat := 30 * x.n + dsum x.ls
def wsum (l : List Stp) : Nat := (l.map Stp.wt).sum
theorem wsum_take (l : List Stp) (k : Nat) (h : k < l.length) : wsum (l.take (k + 1)) = wsum (l.take k) + l[k].wt := by
  unfold wsum
  rw [List.take_add_one, List.getElem?_eq_getElem h, List.map_append, List.sum_append]
  simp only [Option.toList_some, List.map_cons, List.map_nil, List.sum_cons, List.sum_nil, Nat.add_zero]
theorem wsum_mono (l : List Stp) (j k : Nat) (h : j ≤ k) : wsum (l.take j) ≤ wsum (l.take k) := by
  unfold wsum
  rw [← List.take_append_drop j (l.take k), List.take_take, Nat.min_eq_left h]
  simp
/-- no entry among the steps' has too many bytes -/
def tame (l : List Stp) : Prop := ∀ x ∈ l, ∀ y ∈ x.ls, y.d.length ≤ 140737488351232
def tamX (l : List XE) : Prop := ∀ y ∈ l, y.d.length ≤ 140737488351232
theorem tame_take {l : List Stp} {k : Nat} (h : k < l.length) : tame (l.take (k + 1)) ↔ tame (l.take k) ∧ tamX l[k].ls := by
  unfold tame tamX
  rw [List.take_add_one, List.getElem?_eq_getElem h]
  simp only [Option.toList_some, List.mem_append, List.mem_singleton]
  constructor
  · intro q
    exact ⟨fun x hx => q x (.inl hx), fun y hy => q _ (.inr rfl) y hy⟩
  · rintro ⟨q1, q2⟩ x (hx | rfl)
    · exact q1 x hx
    · exact q2
theorem tamX_take {l : List XE} {k : Nat} (h : k < l.length) : tamX (l.take (k + 1)) ↔ tamX (l.take k) ∧ l[k].d.length ≤ 140737488351232 := by
  unfold tamX
  rw [List.take_add_one, List.getElem?_eq_getElem h]
  simp only [Option.toList_some, List.mem_append, List.mem_singleton]
  constructor
  · intro q
    exact ⟨fun x hx => q x (.inl hx), q _ (.inr rfl)⟩
  · rintro ⟨q1, q2⟩ x (hx | rfl)
    · exact q1 x hx
    · exact q2
theorem tame_mono {l : List Stp} {j k : Nat} (h : j ≤ k) (ht : tame (l.take k)) : tame (l.take j) := fun x hx => ht x (by
  have : l.take j = (l.take k).take j := by rw [List.take_take, Nat.min_eq_left h]
  rw [this] at hx
  exact List.mem_of_mem_take hx)
def MuchIs (l : List Stp) (w : World) (e : Ending) (w' : World) : Prop := ∃ b, e = .returned (.bool b) ∧ w = w' ∧ (b = false → (∀ x ∈ l.take 100, x.n ≤ 1000) ∧ (tame (l.take 100) → wsum (l.take 100) ≤ 30000))
theorem MuchIs.yes (l : List Stp) (w : World) : MuchIs l w (.returned (.bool true)) w := ⟨true, rfl, rfl, fun h => by cases h⟩
theorem wrap_any (x : Int) : -9223372036854775808 ≤ IntKind.i64.wrap x ∧ IntKind.i64.wrap x ≤ 9223372036854775807 := by
  rw [IntKind.wrap_i64]
  omega
set_option maxRecDepth 100000 in
set_option maxHeartbeats 3200000 in
theorem much_any (A : Option Addr) (n cap : Nat) (l : List Stp) (w : World) (hr : RdT w A n l) : Calls Tryz.prog 5 #[.slice none 0 0, .slice A n cap] w (MuchIs l w) := by
  have HR := Lib.hid hr
  have HL := Lib.hid hr.1
  have hm := hr.2.1
  unfold maxLen at hm
  clear hr
  go_enter Tryz.func5, Tryz.ntmps5
  go_wp2
  go_loop [5, 6] (fun nv iv => nv = .int .i64 0 ∧ iv = .int .i64 0) (fun _ _ => 0)
  case atStart => exact ⟨rfl, rfl⟩
  case round =>
  obtain ⟨rfl, rfl⟩ := hrel
  go_wp2
  go_loop [5, 7, 8] (fun nv iv _ => ∃ (i : Nat) (N : Int), i ≤ n ∧ i ≤ 100 ∧ iv = .int .i64 i ∧ nv = .int .i64 N ∧ (tame (l.take i) → (wsum (l.take i) : Int) = N) ∧ -9223372036854775808 ≤ N ∧ N ≤ 30000 ∧ ∀ x ∈ l.take i, x.n ≤ 1000) (fun _ iv _ => 100 - (intOf iv).toNat)
  case atStart => exact ⟨0, 0, Nat.zero_le _, by omega, rfl, rfl, fun _ => by simp [wsum], by omega, by omega, by simp⟩
  case round =>
    obtain ⟨i, N, hin, hi1, rfl, rfl, hs, hn0, hn5, hx10⟩ := hrel
    have HS := Lib.hid hs
    have HXX := Lib.hid hx10
    clear hs hx10
    have HEND := Lib.hid (show l.take 100 = l.take i → MuchIs l w (.returned (.bool (decide ((30000 : Int) < N)))) w from fun hk => ⟨_, rfl, rfl, fun _ => ⟨by rw [hk]; exact HXX.out, fun ht => by rw [hk] at ht ⊢; have := HS.out ht; omega⟩⟩)
    by_cases h1 : i < n
    rotate_left
    · have HFIN := Lib.hid (HEND.out (by have := HL.out; rw [List.take_of_length_le (by omega), List.take_of_length_le (by omega)]))
      go_wp2
      go_ret
      exact HFIN.out
    by_cases h2 : i < 100
    rotate_left
    · have HFIN := Lib.hid (HEND.out (by congr 1; omega))
      go_wp2
      go_ret
      exact HFIN.out
    have hil : i < l.length := by have := HL.out; omega
    obtain ⟨b, off, rfl, hc⟩ := HR.out.at5 (Below.refl _ _) i hil
    have c3 := hc 3 (.slice l[i].A l[i].n l[i].c) (by omega) rfl
    have HX := Lib.hid (HR.out.2.2.2 _ (List.getElem_mem hil)).1
    have HSU := Lib.hid (wsum_take l i hil)
    have HTA := Lib.hid (tame_take hil)
    have HTK := Lib.hid (show ∀ q : l[i].n ≤ 1000, ∀ x ∈ l.take (i + 1), x.n ≤ 1000 from fun q x hx => by
      rw [List.take_add_one, List.getElem?_eq_getElem hil] at hx
      simp only [Option.toList_some, List.mem_append, List.mem_singleton] at hx
      rcases hx with hx | rfl
      · exact HXX.out x hx
      · exact q)
    clear hc
    generalize l[i] = x at *
    obtain ⟨d, SN, SM, XA, xn, xc, ls, KA, kn, kc, ks⟩ := x
    simp only at c3 HSU HX HTA HTK
    unfold Stp.wt at HSU
    simp only at HSU
    have HXL := Lib.hid HX.out.1
    have k0 : (0 : Int) ≤ (i : Int) := by omega
    have k1 : (i : Int) < (n : Int) := by omega
    have k2 : (i : Int) < 100 := by omega
    by_cases h3 : 1000 < xn
    · have k3 : (1000 : Int) < (xn : Int) := by omega
      go_wp2
      go_ret
      exact MuchIs.yes _ _
    have k3 : ¬ (1000 : Int) < (xn : Int) := by omega
    go_wp2_with fail
    go_loop [5, 8] (fun nv kv => ∃ (k : Nat) (M : Int), k ≤ xn ∧ kv = .int .i64 k ∧ nv = .int .i64 M ∧ (tamX (ls.take k) → N + 30 * xn + dsum (ls.take k) = M) ∧ -9223372036854775808 ≤ M ∧ M ≤ 9223372036854775807) (fun _ kv => xn - (intOf kv).toNat)
    case atStart => exact ⟨0, N + 30 * xn, Nat.zero_le _, rfl, by go_num, fun _ => by simp [dsum], by omega, by omega⟩
    case round =>
      obtain ⟨k, M, hk, rfl, rfl, hM, hM1, hM2⟩ := hrel
      have HM := Lib.hid hM
      clear hM
      by_cases h4 : k < xn ∧ M < 100000
      · obtain ⟨h4, h5⟩ := h4
        have hkl : k < ls.length := by have := HXL.out; omega
        obtain ⟨zb, zoff, rfl, q⟩ := HX.out.at4 (Below.refl _ _) k hkl
        have q3 := q 3 (.slice ls[k].A ls[k].d.length ls[k].cap) (by omega) rfl
        have HDD := Lib.hid (HX.out.2.2.2 _ (List.getElem_mem hkl)).1.2.1
        have HDS := Lib.hid (dsum_take ls k hkl)
        have HDT := Lib.hid (tamX_take hkl)
        clear q
        generalize ls[k].d.length = D at *
        generalize ls[k].A = DA at *
        generalize ls[k].cap = dc at *
        have hdm := HDD.out
        unfold maxLen at hdm
        have m0 : (0 : Int) ≤ (k : Int) := by omega
        have m1 : (k : Int) < (xn : Int) := by omega
        have HW := Lib.hid (wrap_any (M + (D : Int)))
        have HWI := Lib.hid (IntWalk.i64_in (M + (D : Int)))
        obtain ⟨Q, hQ⟩ : ∃ Q, IntKind.i64.wrap (M + (D : Int)) = Q := ⟨_, rfl⟩
        rw [hQ] at HW HWI
        go_wp2
        all_goals
          go_round
          case rel => exact ⟨k + 1, Q, by omega, by go_num, rfl, fun ht => by
            obtain ⟨t1, t2⟩ := HDT.out.1 ht
            rw [HDS.out, HWI.out (by omega), ← HM.out t1]
            push_cast
            omega, HW.out.1, HW.out.2⟩
          case measure => simp [intOf]; omega
      · have hex : (¬ k < xn) ∨ (k < xn ∧ ¬ M < 100000) := by omega
        clear h4
        by_cases h6 : 30000 < M
        · rcases hex with h4 | ⟨h4, h5⟩
          all_goals
            go_wp2
            go_ret
            exact MuchIs.yes _ _
        · have h8 : ¬ k < xn := by omega
          have hkx : k = xn := by omega
          have HTT := Lib.hid (show ls.take k = ls from List.take_of_length_le (by have := HXL.out; omega))
          clear hex
          go_wp2
          go_round
          case rel => exact ⟨i + 1, M, by omega, by omega, by go_num, rfl, fun ht => by
            obtain ⟨t1, t2⟩ := HTA.out.1 ht
            have e1 := HM.out (by rw [HTT.out]; exact t2)
            have e2 := HS.out t1
            rw [HTT.out] at e1
            rw [HSU.out]
            push_cast
            omega, hM1, by omega, HTK.out (by omega)⟩
          case measure => simp [intOf]; omega
end Go.Proofs.YtgmpdifggaggdaaGreatDoor.Wl

namespace Go.Proofs.YtgmpdifggaggdaaGreatDoor.Wl
open Go.RowKit Go.Proofs.YtgmpdifggaggdaaGreatDoor.Fld
set_option linter.unusedVariables false

/-- an empty disk is opened, in memory -/
def OpnE (w0 w : World) (W g b lim R : Nat) (m : List Dk.Ent) (c : Ct) (t : Dk.St) : Prop := Dk.Sn w0 w g b m t ∧ w0.heap.size ≤ W
set_option maxRecDepth 100000 in
set_option maxHeartbeats 3200000 in
theorem awake_any (w : World) (hB : Base w) : Calls Tryz.prog 4 #[] w fun e w' => e = .returned (.bool true) ∧ Below w.heap.size w w' := by
  have HB := Lib.hid hB
  obtain ⟨k1, k2, k3, k4⟩ := cm_empty 1000 (by omega)
  have HK1 := Lib.hid k1
  have HK2 := Lib.hid k2
  have HK4 := Lib.hid k4
  have HNW := Lib.hid (Dk.new_sn 1000 w (by omega) (by omega))
  clear hB k1 k2 k3 k4
  go_enter Tryz.func4, Tryz.ntmps4
  go_wp2_with fail
  refine HNW.out.mono ?_
  rintro e w1 ⟨b, g, rfl, hsn⟩
  have HSN := Lib.hid hsn
  have HOP := Lib.hid (open_any (lo := w.heap.size) (lim := 100) hsn.1 (HB.out.below hsn.2.1) hsn.2.2 hsn.2.1.size HB.out.lt (by omega) (by omega) rfl (by simp [Dk.st0]))
  clear hsn HNW
  go_wp2_with fail
  refine HOP.out.mono ?_
  rintro e w2 ⟨hr, F', ⟨m, ve, vs, xs, hX, hF⟩, hfr, hsub⟩
  have HX := Lib.hid hX
  have HFR := Lib.hid (hfr.to_below HSN.out.2.1 HSN.out.2.2)
  have HFI := Lib.hid (first_any hX)
  have HNA := Lib.hid (Dk.names_any g b m _ w2 hX.im (by rw [HK4.out]; omega))
  have HML := Lib.hid (show m.length = 1 by rw [hX.im.len]; exact HK4.out)
  rw [HK2.out] at HFI
  rcases hr with ⟨hz, rfl⟩ | ⟨hz, rfl⟩
  rotate_left
  · exact absurd HK1.out hz
  clear hz hX hF hfr hsub HOP
  generalize w1.heap.size = W at *
  go_wp2_with fail
  refine HFI.out.mono ?_
  rintro e w3 ⟨rfl, rfl⟩
  go_wp2_with fail
  refine HNA.out.mono ?_
  rintro e w4 ⟨A, cap, rfl, hrd, hab, hbl⟩
  have HBL := Lib.hid (HFR.out.trans (hbl.mono HFR.out.size))
  have hml := HML.out
  rw [hml]
  clear hrd hab hbl
  go_wp2
  go_ret
  exact ⟨rfl, HBL.out⟩
end Go.Proofs.YtgmpdifggaggdaaGreatDoor.Wl

namespace Go.Proofs.YtgmpdifggaggdaaGreatDoor.Wl
open Go.RowKit Go.Proofs.YtgmpdifggaggdaaGreatDoor.Fld
set_option linter.unusedVariables false

def XE.q (x : XE) : Int × Int × Int × List Int := (x.i, x.t, x.k, x.d)
def E.q (e : E) : Int × Int × Int × List Int := (e.idx, e.term, e.kind, e.data)
/-- an entry of a row's as one that comes in -/
def EA.x (a : EA) : XE := ⟨a.e.idx, a.e.term, a.e.kind, a.e.data, a.A, a.cap⟩
theorem qs_x (ys : List EA) : (ys.map EA.x).map XE.q = (ens ys).map E.q := by
  unfold ens
  rw [List.map_map, List.map_map]
  rfl
theorem qs_e {l : List XE} (h : ∀ x ∈ l, okX x = true) : l.map XE.q = (l.map XE.e).map E.q := by
  rw [List.map_map]
  apply List.map_congr_left
  intro x hx
  have := (okX_iff x).1 (h x hx)
  show (x.i, x.t, x.k, x.d) = ((x.i.toNat : Int), (x.t.toNat : Int), (x.k.toNat : Int), x.d)
  rw [Int.toNat_of_nonneg (by omega), Int.toNat_of_nonneg (by omega), Int.toNat_of_nonneg (by omega)]
theorem get_rdx {w w' : World} {l : List E} {e : Ending} (h : GetIs w l e w') : ∃ A cap ys, e = .returned (.slice A ys.length cap) ∧ RdX w' A ys.length ys ∧ ys.map XE.q = l.map E.q ∧ Below w.heap.size w w' := by
  obtain ⟨v, ys, rfl, hl, hr, hd, hb⟩ := h
  obtain ⟨A, cap, rfl, hA, h1, h2, h3⟩ := row_slice hr
  have hlen : (ys.map EA.x).length = ys.length := List.length_map ..
  refine ⟨A, cap, ys.map EA.x, by rw [hlen], ⟨rfl, by rw [hlen]; omega, fun hn => ?_, fun x hx => ?_⟩, by rw [qs_x, hl], hb⟩
  · rw [hlen] at hn
    cases A with
    | none => have := (h3 rfl).2; omega
    | some a =>
      obtain ⟨b, off, sp⟩ := a
      obtain ⟨q1, q2⟩ := hA _ rfl
      simp only at q1 q2
      subst q1 q2
      refine ⟨b, 0, rfl, fun i hi j hj => ?_⟩
      have hi' : i < ys.length := by rw [hlen] at hi; exact hi
      have hrow := rowE_at ys i j hi' hj
      obtain ⟨u, hu⟩ : ∃ u, (ys.getD i ea0).cells[j]? = some u := ⟨_, List.getElem?_eq_getElem (show j < (ys.getD i ea0).cells.length from hj)⟩
      rw [hu] at hrow
      have hc := (row_cells hr _ _ hrow).1
      have e1 : (ys.map EA.x)[i].cells[j]? = some u := by
        rw [List.getElem_map, ← hu, List.getD_eq_getElem?_getD, List.getElem?_eq_getElem hi']
        rfl
      rw [e1, show (0 : Nat) + i * 4 + j = i * 4 + j by omega]
      exact hc
  · obtain ⟨y, hy, rfl⟩ := List.mem_map.1 hx
    have h4 := hd y hy
    have hs := h4.sl
    exact ⟨hs.1, hs.2.2.2.1⟩
theorem q_take {xs ys : List XE} {k : Nat} (h1 : k < xs.length) (h2 : k < ys.length) (h : (xs.take k).map XE.q = (ys.take k).map XE.q) (hq : xs[k].q = ys[k].q) : (xs.take (k + 1)).map XE.q = (ys.take (k + 1)).map XE.q := by
  rw [List.take_add_one, List.getElem?_eq_getElem h1, List.take_add_one, List.getElem?_eq_getElem h2, List.map_append, List.map_append, h]
  simp [hq]
theorem q_ne {xs ys : List XE} {k : Nat} (h1 : k < xs.length) (h2 : k < ys.length) (hq : xs[k].q ≠ ys[k].q) : xs.map XE.q ≠ ys.map XE.q := by
  intro h
  have e := congrArg (fun l => l[k]?) h
  simp only [List.getElem?_map, List.getElem?_eq_getElem h1, List.getElem?_eq_getElem h2, Option.map_some, Option.some.injEq] at e
  exact hq e
def SameIs (xs ys : List XE) (w : World) (e : Ending) (w' : World) : Prop := ∃ b, e = .returned (.bool b) ∧ (b = true ↔ xs.map XE.q = ys.map XE.q) ∧ Still w w'
theorem SameIs.no {xs ys : List XE} {w w' : World} (h : xs.map XE.q ≠ ys.map XE.q) (hs : Still w w') : SameIs xs ys w (.returned (.bool false)) w' := ⟨false, rfl, by simp [h], hs⟩
set_option maxRecDepth 100000 in
set_option maxHeartbeats 3200000 in
theorem same_any (A : Option Addr) (n cap : Nat) (xs : List XE) (B : Option Addr) (m cap' : Nat) (ys : List XE) (w : World) (hr : RdX w A n xs) (hr' : RdX w B m ys) : Calls Tryz.prog 10 #[.slice A n cap, .slice B m cap'] w (SameIs xs ys w) := by
  have HR := Lib.hid hr
  have HS := Lib.hid hr'
  have HLX := Lib.hid hr.1
  have HLY := Lib.hid hr'.1
  have hm := hr.2.1
  unfold maxLen at hm
  clear hr hr'
  by_cases hnm : n = m
  rotate_left
  · have HN := Lib.hid (SameIs.no (w := w) (w' := w) (show xs.map XE.q ≠ ys.map XE.q from fun h => by have := congrArg List.length h; simp only [List.length_map] at this; have := HLX.out; have := HLY.out; omega) (Still.refl _))
    have h1 : ¬ (n : Int) = (m : Int) := by omega
    go_enter Tryz.func10, Tryz.ntmps10
    go_wp2
    go_ret
    exact HN.out
  subst hnm
  go_enter Tryz.func10, Tryz.ntmps10
  go_wp2
  go_loopw [5] (fun i wr => ∃ k : Nat, k ≤ n ∧ i = .int .i64 k ∧ Still w wr ∧ (xs.take k).map XE.q = (ys.take k).map XE.q) (fun i _ => n - (intOf i).toNat)
  case atStart => exact ⟨0, Nat.zero_le _, rfl, Still.refl _, by simp⟩
  case round =>
    obtain ⟨k, hk, rfl, hst, heq⟩ := hrel
    have HST := Lib.hid hst
    have HEQ := Lib.hid heq
    have HBL := Lib.hid (still_below hst)
    clear hst heq
    by_cases hlt : k < n
    · have hkx : k < xs.length := by have := HLX.out; omega
      have hky : k < ys.length := by have := HLY.out; omega
      obtain ⟨b, off, rfl, q⟩ := HR.out.at4 HBL.out k hkx
      obtain ⟨b', off', rfl, p⟩ := HS.out.at4 HBL.out k hky
      have q0 : wr.cell? ⟨b, off + k * 4, none⟩ = some (.int .i64 xs[k].i) := q 0 _ (by omega) rfl
      have q1 := q 1 (.int .i64 xs[k].t) (by omega) rfl
      have q2 := q 2 (.int .i64 xs[k].k) (by omega) rfl
      have q3 := q 3 (.slice xs[k].A xs[k].d.length xs[k].cap) (by omega) rfl
      have p0 : wr.cell? ⟨b', off' + k * 4, none⟩ = some (.int .i64 ys[k].i) := p 0 _ (by omega) rfl
      have p1 := p 1 (.int .i64 ys[k].t) (by omega) rfl
      have p2 := p 2 (.int .i64 ys[k].k) (by omega) rfl
      have p3 := p 3 (.slice ys[k].A ys[k].d.length ys[k].cap) (by omega) rfl
      have r1 := ((HR.out.below HBL.out).2.2.2 _ (List.getElem_mem hkx)).1
      have r2 := ((HS.out.below HBL.out).2.2.2 _ (List.getElem_mem hky)).1
      have HD1 := Lib.hid (fun (j : Nat) => conv_str (r1.drewN j) xs[k].cap)
      have HD2 := Lib.hid (fun (j : Nat) => conv_str (r2.drewN j) ys[k].cap)
      have HSE := Lib.hid (str_eq r1.2.2.1 r2.2.2.1)
      have HTK := Lib.hid (q_take hkx hky HEQ.out)
      have HNE := Lib.hid (q_ne hkx hky)
      clear q p r1 r2
      generalize xs[k] = x at *
      generalize ys[k] = y at *
      obtain ⟨xi, xt, xk, xd, XA, xc⟩ := x
      obtain ⟨yi, yt, yk, yd, YA, yc⟩ := y
      unfold XE.q at HTK HNE
      simp only at q0 q1 q2 q3 p0 p1 p2 p3 HD1 HD2 HSE HTK HNE
      have k0 : (0 : Int) ≤ (k : Int) := by omega
      have k1 : (k : Int) < (n : Int) := by omega
      have c1 := HD1.out
      have c2 := HD2.out
      by_cases e0 : xi = yi
      rotate_left
      · have s0 : (xi == yi) = false := by simpa using e0
        have n0 : (xi != yi) = true := by simpa using e0
        have d0 : decide (xi = yi) = false := decide_eq_false e0
        have HF := Lib.hid (HNE.out (fun h => e0 (by exact congrArg Prod.fst h)))
        go_wp2_with fail
        go_quiet (fail)
        go_wp2
        go_ret
        exact SameIs.no HF.out (HST.out.trans (Still.drewN (Still.refl _) _))
      have s0 : (xi == yi) = true := by simpa using e0
      by_cases e1 : xt = yt
      rotate_left
      · have s1 : (xt == yt) = false := by simpa using e1
        have n1 : (xt != yt) = true := by simpa using e1
        have d1 : decide (xt = yt) = false := decide_eq_false e1
        have HF := Lib.hid (HNE.out (fun h => e1 (by exact congrArg (fun z => z.2.1) h)))
        go_wp2_with fail
        go_quiet (fail)
        go_wp2
        go_ret
        exact SameIs.no HF.out (HST.out.trans (Still.drewN (Still.refl _) _))
      have s1 : (xt == yt) = true := by simpa using e1
      by_cases e2 : xk = yk
      rotate_left
      · have s2 : (xk == yk) = false := by simpa using e2
        have n2 : (xk != yk) = true := by simpa using e2
        have d2 : decide (xk = yk) = false := decide_eq_false e2
        have HF := Lib.hid (HNE.out (fun h => e2 (by exact congrArg (fun z => z.2.2.1) h)))
        go_wp2_with fail
        go_quiet (fail)
        go_wp2
        go_ret
        exact SameIs.no HF.out (HST.out.trans (Still.drewN (Still.refl _) _))
      have s2 : (xk == yk) = true := by simpa using e2
      have t3 := HSE.out
      generalize Fld.str xd = SX at *
      generalize Fld.str yd = SY at *
      by_cases e3 : xd = yd
      rotate_left
      · have t4 : (SX.toList == SY.toList) = false := by rw [t3]; simp [e3]
        have HF := Lib.hid (HNE.out (fun h => e3 (congrArg (fun z => z.2.2.2) h)))
        clear e3 t3
        generalize xd.length = DX at *
        generalize yd.length = DY at *
        go_wp2_with fail
        go_quiet (fail)
        go_wp2
        go_ret
        exact SameIs.no HF.out (HST.out.trans (Still.drewN (Still.refl _) _))
      have t4 : (SX.toList == SY.toList) = true := by rw [t3]; simp [e3]
      have HF := Lib.hid (HTK.out (by rw [e0, e1, e2, e3]))
      clear e3 t3
      generalize xd.length = DX at *
      generalize yd.length = DY at *
      go_wp2_with fail
      go_quiet (fail)
      go_wp2
      go_roundw
      case rel => exact ⟨k + 1, by omega, by go_num, HST.out.trans (Still.drewN (Still.refl _) _), HF.out⟩
      case measure => simp [intOf]; omega
    · obtain rfl : k = n := by omega
      have HFI := Lib.hid (show SameIs xs ys w (.returned (.bool true)) wr from ⟨true, rfl, by have h := HEQ.out; rw [List.take_of_length_le (by have := HLX.out; omega), List.take_of_length_le (by have := HLY.out; omega)] at h; simp [h], HST.out⟩)
      go_wp2
      go_ret
      exact HFI.out
end Go.Proofs.YtgmpdifggaggdaaGreatDoor.Wl

namespace Go.Proofs.YtgmpdifggaggdaaGreatDoor.Wl
open Go.RowKit Go.Proofs.YtgmpdifggaggdaaGreatDoor.Fld
set_option linter.unusedVariables false

theorem cost_x (l : List XE) : cost (l.map XE.e) = 88 * l.length + dsum l := by
  unfold cost dsum
  induction l with
  | nil => rfl
  | cons x l ih =>
    simp only [List.map_cons, List.sum_cons, List.length_cons] at ih ⊢
    rw [ih]
    show 88 + x.d.length + _ = _
    omega
/-- a Wal and its disk, above all that was there -/
def Wa (w0 : World) (W g b lim : Nat) (w : World) (c : Ct) (t : Dk.St) : Prop := (∃ m ve vs xs, WmX w0.heap.size W g b lim m ve vs xs w c t) ∧ Below w0.heap.size w0 w
theorem Wa.below {w0 w w' : World} {W g b lim : Nat} {c : Ct} {t : Dk.St} (h : Wa w0 W g b lim w c t) (hb : Below w.heap.size w w') : Wa w0 W g b lim w' c t := by
  obtain ⟨⟨m, ve, vs, xs, hX⟩, hB⟩ := h
  exact ⟨⟨m, ve, vs, xs, hX.below hb⟩, hB.trans (hb.mono hB.size)⟩
theorem Wa.of {w0 w w' : World} {W g b lim : Nat} {F F' : List Nat} {c : Ct} {t : Dk.St} (hB : Below w0.heap.size w0 w) (hF : ∀ i ∈ F, w0.heap.size ≤ i) (h : WmS w0.heap.size W g b lim F' w' c t) (hf : Dk.Fr F w w') : Wa w0 W g b lim w' c t := by
  obtain ⟨m, ve, vs, xs, hX, _⟩ := h
  exact ⟨⟨m, ve, vs, xs, hX⟩, hf.to_below hB hF⟩
/-- the bytes of entries that came in lie below -/
theorem RdX.low {w0 : World} {A : Option Addr} {n : Nat} {l : List XE} (h : RdX w0 A n l) : ∀ x ∈ l, 0 < x.d.length → ∀ a, x.A = some a → a.block < w0.heap.size := by
  intro x hx hp a ha
  obtain ⟨b, off, hA, hc⟩ := (h.2.2.2 x hx).1.2.2.2 hp
  rw [hA] at ha
  cases ha
  exact lt_of_cell (hc 0 hp)
/-- what Append answers and leaves -/
def AppB (w0 : World) (W g b lim R T : Nat) (P : Lg → Prop) (l : List XE) (c : Ct) (t : Dk.St) (e : Ending) (w' : World) : Prop :=
  ∃ (z : Int) (c' : Ct) (t' : Dk.St), e = .returned (.int .i64 z) ∧ Wa w0 W g b lim w' c' t' ∧
    ((z = 1 ∧ c' = c ∧ t' = t) ∨ (z = 7 ∧ c' = c ∧ t' = t) ∨ (z = 0 ∧ (∀ x ∈ l, okX x = true) ∧ c'.lg = addAll c.lg (l.map XE.e) ∧ Cm R (T + cost (l.map XE.e)) (fun g => P g ∨ ∃ i, i ≤ l.length ∧ g = addAll c.lg ((l.map XE.e).take i)) c' t'))
theorem app_cm {w0 w : World} {W g b lim R T : Nat} {P : Lg → Prop} {c : Ct} {t : Dk.St} (h : Wa w0 W g b lim w c t) (hc : Cm R T P c t) (hT : T ≤ 400000) (hes : c.lg.es.length ≤ 1000000) (A : Option Addr) (n cap : Nat) (l : List XE) (hr : RdX w A n l) (hn : n ≤ 100000) (hlow : ∀ x ∈ l, 0 < x.d.length → ∀ a, x.A = some a → a.block < w0.heap.size) (hcost : (∀ x ∈ l, okX x = true) → T + cost (l.map XE.e) ≤ R) :
    Calls Tryz.prog 8 #[.pointer (some ⟨W, 0, none⟩), .slice A n cap] w (AppB w0 W g b lim R T P l c t) := by
  obtain ⟨⟨m, ve, vs, xs, hX⟩, hB⟩ := h
  obtain ⟨k1, L, S, k2, k3, k4⟩ := hc.few
  refine (wappend_any hX k2 (by omega) (by omega) (by omega) hes A n cap l hr hn (fun x hx hp a ha hm => by have := hlow x hx hp a ha; have := hX.low _ hm; omega)).mono ?_
  rintro e w' (⟨_, rfl, hb⟩ | ⟨_, _, rfl, hb⟩ | ⟨hok, hseq, rfl, hq⟩)
  · exact ⟨1, c, t, rfl, (Wa.below ⟨⟨m, ve, vs, xs, hX⟩, hB⟩ hb), .inl ⟨rfl, rfl, rfl⟩⟩
  · exact ⟨7, c, t, rfl, (Wa.below ⟨⟨m, ve, vs, xs, hX⟩, hB⟩ hb), .inr (.inl ⟨rfl, rfl, rfl⟩)⟩
  · have hEO : ∀ e ∈ l.map XE.e, e.Ok := by
      intro e he
      obtain ⟨x, hx, rfl⟩ := List.mem_map.1 he
      exact XE.e_ok (hok x hx) (hr.2.2.2 x hx).1.2.2.1
    obtain ⟨q1, q2, q3⟩ := hc.app lim (l.map XE.e) hX.ct.ok.1.1 hEO hseq (hcost hok)
    rcases hq with ⟨_, F', hS, hf, _⟩ | ⟨h0, _⟩
    · refine ⟨0, _, _, by rw [q1], Wa.of hB (fun i hi => hX.low i hi) hS hf, .inr (.inr ⟨rfl, hok, q2, ?_⟩)⟩
      simpa using q3
    · exact absurd q1 h0
/-- an empty disk is opened -/
theorem open_cm {w0 w : World} {g b : Nat} (R : Nat) (hR : 35 ≤ R) (h : Dk.Sn w0 w g b [] (Dk.st0 R)) (hB : Base w0) (lim : Nat) (h1 : 32 ≤ lim) (h2 : lim ≤ 65536) :
    Calls Tryz.prog 7 #[.pointer (some ⟨g, 0, none⟩), .int .i64 (lim : Int)] w fun e w' => e = .returned (.tuple #[.pointer (some ⟨w.heap.size, 0, none⟩), .int .i64 0]) ∧ ∃ c t, Wa w0 w.heap.size g b lim w' c t ∧ Cm R 35 (fun g => g = ⟨0, []⟩) c t ∧ c.lg = ⟨0, []⟩ := by
  obtain ⟨k1, k2, k3, k4⟩ := cm_empty R hR
  refine (open_any (lo := w0.heap.size) (lim := lim) h.1 (hB.below h.2.1) h.2.2 h.2.1.size hB.lt h1 h2 rfl (by simp [Dk.st0])).mono ?_
  rintro e w' ⟨hr, F', hS, hf, _⟩
  rcases hr with ⟨_, rfl⟩ | ⟨hz, _⟩
  · exact ⟨rfl, _, _, Wa.of h.2.1 h.2.2 hS hf, k3, k2⟩
  · exact absurd k1 hz
/-- behind a crash the log is opened -/
theorem reopen_cm {w0 w : World} {W g b lim R T : Nat} {P : Lg → Prop} {c : Ct} {t : Dk.St} {m : List Dk.Ent} (hc : Cm R T P c t) (hr : 2 * T + 35 ≤ R) (hT : T ≤ 400000) (hP : ∀ g, P g → g.last ≤ MI) (ks : List Int) (h : Dk.Sn w0 w g b m (Dk.stCrash ks t)) (hB : Base w0) (h1 : 32 ≤ lim) (h2 : lim ≤ 65536) :
    Calls Tryz.prog 7 #[.pointer (some ⟨g, 0, none⟩), .int .i64 (lim : Int)] w fun e w' => e = .returned (.tuple #[.pointer (some ⟨w.heap.size, 0, none⟩), .int .i64 0]) ∧ ∃ c t, Wa w0 w.heap.size g b lim w' c t ∧ P c.lg := by
  obtain ⟨k1, k2, k3, k4⟩ := hc.crash hr hP ks ct0
  obtain ⟨q1, _⟩ := hc.few
  refine (open_any (lo := w0.heap.size) (lim := lim) h.1 (hB.below h.2.1) h.2.2 h.2.1.size hB.lt h1 h2 k1 (by omega)).mono ?_
  rintro e w' ⟨hr, F', hS, hf, _⟩
  rcases hr with ⟨_, rfl⟩ | ⟨hz, _⟩
  · exact ⟨rfl, _, _, Wa.of h.2.1 h.2.2 hS hf, k4⟩
  · exact absurd k3 hz
end Go.Proofs.YtgmpdifggaggdaaGreatDoor.Wl

namespace Go.Proofs.YtgmpdifggaggdaaGreatDoor.Wl
open Go.RowKit Go.Proofs.YtgmpdifggaggdaaGreatDoor.Fld
set_option linter.unusedVariables false

def sg0 : Sg := ⟨0, 0, 0⟩
theorem rowS_at (a : List Sg) (k j : Nat) (h : k < a.length) (hj : j < 3) : (rowS a)[k * 3 + j]? = (a.getD k sg0).cells[j]? := by
  have h1 := rowS_drop a k
  rw [List.drop_eq_getElem_cons h] at h1
  have h2 : ((rowS a).drop (k * 3))[j]? = (rowS a)[k * 3 + j]? := by rw [List.getElem?_drop]
  rw [← h2, ← h1]
  unfold rowS
  have hl : a[k].cells.length = 3 := rfl
  rw [List.flatMap_cons, List.getElem?_append_left (by omega), List.getD_eq_getElem?_getD, List.getElem?_eq_getElem h]
  rfl
theorem row_cellS {w : World} {lo n cap : Nat} {A : Option Addr} {l : List Sg} (h : w.ownsRow lo 69 3 (.slice A n cap) n (rowS l)) (hn : n = l.length) (k : Nat) (hk : k < n) : ∃ q, A = some ⟨q, 0, none⟩ ∧ lo ≤ q ∧ ∀ i j, i < n → j < 3 → w.cell? ⟨q, i * 3 + j, none⟩ = (l.getD i sg0).cells[j]? := by
  obtain ⟨hl, hv | ⟨g', cap', cur, hv, hg, hb, hnc, hcm, hcs, hcu⟩⟩ := h
  · obtain ⟨_, h0⟩ := hv
    omega
  · simp only [Value.slice.injEq] at hv
    obtain ⟨rfl, _, rfl⟩ := hv
    refine ⟨g', rfl, hg, fun i j hi hj => ?_⟩
    rw [cell_of_row w g' _ _ _ (0, 0) hb, ← rowS_at l i j (by omega) hj, ← hcu, List.getElem?_take, if_pos (by omega), Array.getElem?_toList]
theorem needless_le (before : Int) : ∀ l : List Sg, needless before l ≤ l.length
  | [] => Nat.le_refl _
  | [s] => by simp [needless]
  | s :: u :: r => by
    rw [needless]
    split
    · have := needless_le before (u :: r)
      simp at this ⊢
      omega
    · omega
theorem needless_step (before : Int) (l : List Sg) (k : Nat) (hk : k + 1 < l.length) : needless before (l.drop k) = if ((l.getD (k + 1) sg0).next : Int) ≤ before then needless before (l.drop (k + 1)) + 1 else 0 := by
  rw [List.drop_eq_getElem_cons (by omega), List.drop_eq_getElem_cons hk, needless]
  rw [List.getD_eq_getElem?_getD, List.getElem?_eq_getElem hk]
  rfl
theorem needless_end (before : Int) (l : List Sg) (k : Nat) (hk : l.length ≤ k + 1) : needless before (l.drop k) = 0 := by
  rcases Nat.lt_or_ge k l.length with h | h
  · rw [List.drop_eq_getElem_cons h, List.drop_of_length_le hk]; rfl
  · rw [List.drop_of_length_le h]; rfl
set_option maxRecDepth 100000 in
set_option maxHeartbeats 1600000 in
theorem needless_any {lo W g b lim : Nat} {m : List Dk.Ent} {ve vs : Value} {xs : List EA} {w : World} {c : Ct} {t : Dk.St} (h : WmX lo W g b lim m ve vs xs w c t) (before : Int) (hl : c.segs.length ≤ 100000000) :
    Calls Tryz.prog 26 #[.pointer (some ⟨W, 0, none⟩), .int .i64 before] w fun e w' => e = .returned (.int .i64 (needless before c.segs : Int)) ∧ w = w' := by
  obtain ⟨SA, sc, hvs, _⟩ := row_slice h.ct.rS
  have hrS := h.ct.rS
  rw [hvs] at hrS
  have c5 := h.ct.blk.cell 5 (.slice SA c.segs.length sc) (by rw [← hvs]; rfl)
  have HC := Lib.hid (fun k hk => row_cellS hrS rfl k hk)
  have HST := Lib.hid (fun k hk => needless_step before c.segs k hk)
  have HEN := Lib.hid (fun k hk => needless_end before c.segs k hk)
  obtain ⟨N, hN⟩ : ∃ N, needless before c.segs = N := ⟨_, rfl⟩
  have HN := Lib.hid (show needless before (c.segs.drop 0) = N by rw [List.drop_zero]; exact hN)
  rw [hN]
  generalize hn : c.segs.length = n at *
  clear h hrS hvs hN hn
  go_enter Tryz.func26, Tryz.ntmps26
  go_wp2
  go_loop [5] (fun i => ∃ k : Nat, k ≤ n ∧ i = .int .i64 (k : Int) ∧ k + needless before (c.segs.drop k) = N) (fun i => n - (intOf i).toNat)
  case atStart => exact ⟨0, by omega, rfl, by rw [Nat.zero_add]; exact HN.out⟩
  case round =>
    obtain ⟨k, hk, rfl, hsum⟩ := hrel
    have HSUM := Lib.hid hsum
    clear hsum
    by_cases hlt : k + 1 < n
    · obtain ⟨q, rfl, _, hcell⟩ := HC.out k (by omega)
      have hc := hcell (k + 1) 1 hlt (by omega)
      have HST1 := Lib.hid (HST.out k hlt)
      have hc' : w.cell? ⟨q, (k + 1) * 3 + 1, none⟩ = some (.int .i64 ((c.segs.getD (k + 1) sg0).next : Int)) := hc
      clear hc hcell
      generalize (c.segs.getD (k + 1) sg0).next = x at *
      obtain ⟨u, hu⟩ : ∃ u, k + 1 = u := ⟨_, rfl⟩
      have hw1 : (k : Int) + 1 = (u : Int) := by omega
      have u0 : (0 : Int) ≤ (u : Int) := by omega
      have u1 : (u : Int) < (n : Int) := by omega
      have HU := Lib.hid hu
      rw [hu] at hc' hlt
      have HST2 := Lib.hid (show needless before (c.segs.drop k) = if (x : Int) ≤ before then needless before (c.segs.drop u) + 1 else 0 by rw [← hu]; exact HST1.out)
      clear hu HST1
      by_cases hx : (x : Int) ≤ before
      · have HS3 := Lib.hid (show u + needless before (c.segs.drop u) = N by have h1 := HST2.out; have h2 := HSUM.out; have h3 := HU.out; rw [if_pos hx] at h1; omega)
        go_wp2_with (first | rw [hw1] | fail)
        go_roundw
        case rel => exact ⟨u, by omega, by first | rfl | (rw [hw1]), HS3.out⟩
        case measure => have := HU.out; simp [intOf]; omega
      · have HS3 := Lib.hid (show N = k by have h1 := HST2.out; have h2 := HSUM.out; rw [if_neg hx] at h1; omega)
        go_wp2_with (first | rw [hw1] | fail)
        go_ret
        exact ⟨by rw [HS3.out]; rfl, rfl⟩
    · have HS3 := Lib.hid (show N = k by have h1 := HEN.out k (by omega); have h2 := HSUM.out; omega)
      have hnl : ¬ ((k : Int) + 1 < (n : Int)) := by omega
      go_wp2
      go_ret
      exact ⟨by rw [HS3.out]; rfl, rfl⟩
set_option maxRecDepth 100000 in
set_option maxHeartbeats 1600000 in
theorem drop1_any {lo W g b lim : Nat} {m : List Dk.Ent} {ve vs : Value} {xs : List EA} {w : World} {c : Ct} {t : Dk.St} (h : WmX lo W g b lim m ve vs xs w c t) (bw bn : Nat) (hw : w.cell? ⟨bw, 0, none⟩ = some (.pointer (some ⟨W, 0, none⟩))) (s : Sg) (hn : s.num ≤ 99999999) (hs0 : w.cell? ⟨bn, 0, none⟩ = some (.int .i64 (s.num : Int))) (hs1 : w.cell? ⟨bn, 1, none⟩ = some (.int .i64 (s.next : Int))) (hs2 : w.cell? ⟨bn, 2, none⟩ = some (.int .i64 (s.size : Int))) (hbF : bw ∉ WFt W g b m ve vs) (hbF3 : bn ∉ WFt W g b m ve vs) :
    Calls Tryz.prog 27 #[.pointer (some ⟨bw, 0, none⟩), .pointer (some ⟨bn, 0, none⟩)] w (StpI lo W g b lim (WFt W g b m ve vs) w (spDisk (Dk.stUnlink (segN s.num)) c t)) := by
  have HX := Lib.hid h
  have c0 := h.ct.blk.cell 0 (.pointer (some ⟨g, 0, none⟩)) rfl
  have HNM := Lib.hid (fun (w' : World) (hb : Below w.heap.size w w') => segname_any s.num (.int .i64 (s.next : Int)) (.int .i64 (s.size : Int)) hn w' (h.below hb).base)
  have HU := Lib.hid (fun (w' : World) (hb : Below w.heap.size w w') => show Calls Tryz.prog 28 #[.pointer (some ⟨g, 0, none⟩), .string (str (segN s.num))] w' (Dk.Did w' g b m (Dk.stUnlink (segN s.num) t)) from by
    have := Dk.unl_did g b m t (str (segN s.num)) w' (h.im.below hb)
    rwa [str_data] at this)
  have HO1 := Lib.hid (stp_off hbF)
  have HO2 := Lib.hid h.W_off
  have HO4 := Lib.hid (stp_off hbF3)
  clear h hbF hbF3
  go_enter Tryz.func27, Tryz.ntmps27
  go_wp2_with fail
  go_region_held3 (fun w' => w'.cell? ⟨bw, 0, none⟩ = some (.pointer (some ⟨W, 0, none⟩)) ∧ w'.cell? ⟨W, 0, none⟩ = some (.pointer (some ⟨g, 0, none⟩)) ∧ w'.cell? ⟨bn, 0, none⟩ = some (.int .i64 (s.num : Int)) ∧ w'.cell? ⟨bn, 1, none⟩ = some (.int .i64 (s.next : Int)) ∧ w'.cell? ⟨bn, 2, none⟩ = some (.int .i64 (s.size : Int))) (first | exact ⟨by assumption, by assumption, by assumption, by assumption, by assumption⟩ | go_keep) (first
    | (go_at_call 29; refine (HNM.out _ (by first | exact Below.refl _ _ | exact (Below.refl _ _).drew)).mono ?_; rintro e w2 ⟨rfl, hb2⟩; have HB2 := Lib.hid (show Below w.heap.size w w2 from (by first | exact hb2 | exact (Below.refl _ _).drew.trans hb2)); have q0 := (HB2.out.cell (lt_of_cell hw)).trans hw; have q1 := (HB2.out.cell (lt_of_cell c0)).trans c0; have q2 := (HB2.out.cell (lt_of_cell hs0)).trans hs0; have q3 := (HB2.out.cell (lt_of_cell hs1)).trans hs1; have q4 := (HB2.out.cell (lt_of_cell hs2)).trans hs2; clear hb2)
    | (go_at_call 28; refine (HU.out _ (by first | exact HB2.out | exact HB2.out.drew)).mono ?_; rintro e w3 ⟨rfl, m3, hL3⟩; have HLM := Lib.hid (show Kp.LeftM w g b m m3 w3 from (by first | exact (Kp.LeftM.below HB2.out).trans ⟨hL3.2.1, hL3.2.2⟩ | exact (Kp.LeftM.below HB2.out.drew).trans ⟨hL3.2.1, hL3.2.2⟩)); have HF := Lib.hid (StpI.disk HX.out hL3.1 HLM.out (Dk.stUnlink (segN s.num) t).1); have r0 := HLM.out.1.cell hw HO1.out; have r1 := HLM.out.1.cell c0 HO2.out; have r2 := HLM.out.1.cell hs0 HO4.out; have r3 := HLM.out.1.cell hs1 HO4.out; have r4 := HLM.out.1.cell hs2 HO4.out; clear hL3))
  all_goals
    go_wp2
    go_ret
    exact HF.out
end Go.Proofs.YtgmpdifggaggdaaGreatDoor.Wl
