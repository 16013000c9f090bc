/-
  Several texts in one: Layer 6: awake. Conditions: the table and the error of the shelf lie in memory (Base). Layer 6: SameEntries. Conditions: the lists can be read. Layer 6: Append and Sync over a disk that is on, as the laws call them. Conditions: the Wal and its disk lie in memory (WmX), above all that was there. Layer 6: WalBack. Conditions: the entries and the numbers can be read. Arguments opened to cells: slices of entries, steps, numbers, as the given rows read them. No condition.
-/
import Derived.Test.YtnppomiggajhnaaGreatDoorJWalIny
import Derived.Test.YtnppomiggajhnaaGreatDoorJDiskSn
import Derived.Test.YtnppomiggajhnaaGreatDoorJDiskRead
import Derived.Deep.QuietTactic
import Derived.BigQuiet
import Derived.Test.YtnppomiggajhnaaGreatDoorJWalRse
import Derived.Deep.Slices
import Derived.Deep.Fields
import Derived.ChangeSame
import Derived.OpenShut
namespace Go.Proofs.YtnppomiggajhnaaGreatDoor.Wl
open Go.RowKit Go.Proofs.YtnppomiggajhnaaGreatDoor.Fld
set_option linter.unusedVariables false

/-- an empty disk is opened, in memory -/
def OpnE (w0 w : World) (W g b lim R : Nat) (m : List Dk.Ent) (c : Ct) (t : Dk.St) : Prop := Dk.Sn w0 w g b m t ∧ w0.heap.size ≤ W
set_option maxRecDepth 100000 in
set_option maxHeartbeats 3200000 in
theorem awake_any (w : World) (hB : Base w) : Calls Tryz.prog 8 #[] w fun e w' => e = .returned (.bool true) ∧ Below w.heap.size w w' := by
  have HB := Lib.hid hB
  obtain ⟨k1, k2, k3, k4⟩ := cm_empty 1000 (by omega)
  have HK1 := Lib.hid k1
  have HK2 := Lib.hid k2
  have HK4 := Lib.hid k4
  have HNW := Lib.hid (Dk.new_sn 1000 w (by omega) (by omega))
  clear hB k1 k2 k3 k4
  go_enter Tryz.func8, Tryz.ntmps8
  go_wp2_with fail
  refine HNW.out.mono ?_
  rintro e w1 ⟨b, g, rfl, hsn⟩
  have HSN := Lib.hid hsn
  have HOP := Lib.hid (open_any (lo := w.heap.size) (lim := 100) hsn.1 (HB.out.below hsn.2.1) hsn.2.2 hsn.2.1.size HB.out.lt (by omega) (by omega) rfl (by simp [Dk.st0]))
  clear hsn HNW
  go_wp2_with fail
  refine HOP.out.mono ?_
  rintro e w2 ⟨hr, F', ⟨m, ve, vs, xs, hX, hF⟩, hfr, hsub⟩
  have HX := Lib.hid hX
  have HFR := Lib.hid (hfr.to_below HSN.out.2.1 HSN.out.2.2)
  have HFI := Lib.hid (first_any hX)
  have HNA := Lib.hid (Dk.names_any g b m _ w2 hX.im (by rw [HK4.out]; omega))
  have HML := Lib.hid (show m.length = 1 by rw [hX.im.len]; exact HK4.out)
  rw [HK2.out] at HFI
  rcases hr with ⟨hz, rfl⟩ | ⟨hz, rfl⟩
  rotate_left
  · exact absurd HK1.out hz
  clear hz hX hF hfr hsub HOP
  generalize w1.heap.size = W at *
  go_wp2_with fail
  refine HFI.out.mono ?_
  rintro e w3 ⟨rfl, rfl⟩
  go_wp2_with fail
  refine HNA.out.mono ?_
  rintro e w4 ⟨A, cap, rfl, hrd, hab, hbl⟩
  have HBL := Lib.hid (HFR.out.trans (hbl.mono HFR.out.size))
  have hml := HML.out
  rw [hml]
  clear hrd hab hbl
  go_wp2
  go_ret
  exact ⟨rfl, HBL.out⟩
end Go.Proofs.YtnppomiggajhnaaGreatDoor.Wl

namespace Go.Proofs.YtnppomiggajhnaaGreatDoor.Wl
open Go.RowKit Go.Proofs.YtnppomiggajhnaaGreatDoor.Fld
set_option linter.unusedVariables false

def XE.q (x : XE) : Int × Int × Int × List Int := (x.i, x.t, x.k, x.d)
def E.q (e : E) : Int × Int × Int × List Int := (e.idx, e.term, e.kind, e.data)
/-- an entry of a row's as one that comes in -/
def EA.x (a : EA) : XE := ⟨a.e.idx, a.e.term, a.e.kind, a.e.data, a.A, a.cap⟩
theorem qs_x (ys : List EA) : (ys.map EA.x).map XE.q = (ens ys).map E.q := by
  unfold ens
  rw [List.map_map, List.map_map]
  rfl
theorem qs_e {l : List XE} (h : ∀ x ∈ l, okX x = true) : l.map XE.q = (l.map XE.e).map E.q := by
  rw [List.map_map]
  apply List.map_congr_left
  intro x hx
  have := (okX_iff x).1 (h x hx)
  show (x.i, x.t, x.k, x.d) = ((x.i.toNat : Int), (x.t.toNat : Int), (x.k.toNat : Int), x.d)
  rw [Int.toNat_of_nonneg (by omega), Int.toNat_of_nonneg (by omega), Int.toNat_of_nonneg (by omega)]
theorem get_rdx {w w' : World} {l : List E} {e : Ending} (h : GetIs w l e w') : ∃ A cap ys, e = .returned (.slice A ys.length cap) ∧ RdX w' A ys.length ys ∧ ys.map XE.q = l.map E.q ∧ Below w.heap.size w w' := by
  obtain ⟨v, ys, rfl, hl, hr, hd, hb⟩ := h
  obtain ⟨A, cap, rfl, hA, h1, h2, h3⟩ := row_slice hr
  have hlen : (ys.map EA.x).length = ys.length := List.length_map ..
  refine ⟨A, cap, ys.map EA.x, by rw [hlen], ⟨rfl, by rw [hlen]; omega, fun hn => ?_, fun x hx => ?_⟩, by rw [qs_x, hl], hb⟩
  · rw [hlen] at hn
    cases A with
    | none => have := (h3 rfl).2; omega
    | some a =>
      obtain ⟨b, off, sp⟩ := a
      obtain ⟨q1, q2⟩ := hA _ rfl
      simp only at q1 q2
      subst q1 q2
      refine ⟨b, 0, rfl, fun i hi j hj => ?_⟩
      have hi' : i < ys.length := by rw [hlen] at hi; exact hi
      have hrow := rowE_at ys i j hi' hj
      obtain ⟨u, hu⟩ : ∃ u, (ys.getD i ea0).cells[j]? = some u := ⟨_, List.getElem?_eq_getElem (show j < (ys.getD i ea0).cells.length from hj)⟩
      rw [hu] at hrow
      have hc := (row_cells hr _ _ hrow).1
      have e1 : (ys.map EA.x)[i].cells[j]? = some u := by
        rw [List.getElem_map, ← hu, List.getD_eq_getElem?_getD, List.getElem?_eq_getElem hi']
        rfl
      rw [e1, show (0 : Nat) + i * 4 + j = i * 4 + j by omega]
      exact hc
  · obtain ⟨y, hy, rfl⟩ := List.mem_map.1 hx
    have h4 := hd y hy
    have hs := h4.sl
    exact ⟨hs.1, hs.2.2.2.1⟩
theorem q_take {xs ys : List XE} {k : Nat} (h1 : k < xs.length) (h2 : k < ys.length) (h : (xs.take k).map XE.q = (ys.take k).map XE.q) (hq : xs[k].q = ys[k].q) : (xs.take (k + 1)).map XE.q = (ys.take (k + 1)).map XE.q := by
  rw [List.take_add_one, List.getElem?_eq_getElem h1, List.take_add_one, List.getElem?_eq_getElem h2, List.map_append, List.map_append, h]
  simp [hq]
theorem q_ne {xs ys : List XE} {k : Nat} (h1 : k < xs.length) (h2 : k < ys.length) (hq : xs[k].q ≠ ys[k].q) : xs.map XE.q ≠ ys.map XE.q := by
  intro h
  have e := congrArg (fun l => l[k]?) h
  simp only [List.getElem?_map, List.getElem?_eq_getElem h1, List.getElem?_eq_getElem h2, Option.map_some, Option.some.injEq] at e
  exact hq e
def SameIs (xs ys : List XE) (w : World) (e : Ending) (w' : World) : Prop := ∃ b, e = .returned (.bool b) ∧ (b = true ↔ xs.map XE.q = ys.map XE.q) ∧ Still w w'
theorem SameIs.no {xs ys : List XE} {w w' : World} (h : xs.map XE.q ≠ ys.map XE.q) (hs : Still w w') : SameIs xs ys w (.returned (.bool false)) w' := ⟨false, rfl, by simp [h], hs⟩
set_option maxRecDepth 100000 in
set_option maxHeartbeats 3200000 in
theorem same_any (A : Option Addr) (n cap : Nat) (xs : List XE) (B : Option Addr) (m cap' : Nat) (ys : List XE) (w : World) (hr : RdX w A n xs) (hr' : RdX w B m ys) : Calls Tryz.prog 29 #[.slice A n cap, .slice B m cap'] w (SameIs xs ys w) := by
  have HR := Lib.hid hr
  have HS := Lib.hid hr'
  have HLX := Lib.hid hr.1
  have HLY := Lib.hid hr'.1
  have hm := hr.2.1
  unfold maxLen at hm
  clear hr hr'
  by_cases hnm : n = m
  rotate_left
  · have HN := Lib.hid (SameIs.no (w := w) (w' := w) (show xs.map XE.q ≠ ys.map XE.q from fun h => by have := congrArg List.length h; simp only [List.length_map] at this; have := HLX.out; have := HLY.out; omega) (Still.refl _))
    have h1 : ¬ (n : Int) = (m : Int) := by omega
    go_enter Tryz.func29, Tryz.ntmps29
    go_wp2
    go_ret
    exact HN.out
  subst hnm
  go_enter Tryz.func29, Tryz.ntmps29
  go_wp2
  go_loopw [5] (fun i wr => ∃ k : Nat, k ≤ n ∧ i = .int .i64 k ∧ Still w wr ∧ (xs.take k).map XE.q = (ys.take k).map XE.q) (fun i _ => n - (intOf i).toNat)
  case atStart => exact ⟨0, Nat.zero_le _, rfl, Still.refl _, by simp⟩
  case round =>
    obtain ⟨k, hk, rfl, hst, heq⟩ := hrel
    have HST := Lib.hid hst
    have HEQ := Lib.hid heq
    have HBL := Lib.hid (still_below hst)
    clear hst heq
    by_cases hlt : k < n
    · have hkx : k < xs.length := by have := HLX.out; omega
      have hky : k < ys.length := by have := HLY.out; omega
      obtain ⟨b, off, rfl, q⟩ := HR.out.at4 HBL.out k hkx
      obtain ⟨b', off', rfl, p⟩ := HS.out.at4 HBL.out k hky
      have q0 : wr.cell? ⟨b, off + k * 4, none⟩ = some (.int .i64 xs[k].i) := q 0 _ (by omega) rfl
      have q1 := q 1 (.int .i64 xs[k].t) (by omega) rfl
      have q2 := q 2 (.int .i64 xs[k].k) (by omega) rfl
      have q3 := q 3 (.slice xs[k].A xs[k].d.length xs[k].cap) (by omega) rfl
      have p0 : wr.cell? ⟨b', off' + k * 4, none⟩ = some (.int .i64 ys[k].i) := p 0 _ (by omega) rfl
      have p1 := p 1 (.int .i64 ys[k].t) (by omega) rfl
      have p2 := p 2 (.int .i64 ys[k].k) (by omega) rfl
      have p3 := p 3 (.slice ys[k].A ys[k].d.length ys[k].cap) (by omega) rfl
      have r1 := ((HR.out.below HBL.out).2.2.2 _ (List.getElem_mem hkx)).1
      have r2 := ((HS.out.below HBL.out).2.2.2 _ (List.getElem_mem hky)).1
      have HD1 := Lib.hid (fun (j : Nat) => conv_str (r1.drewN j) xs[k].cap)
      have HD2 := Lib.hid (fun (j : Nat) => conv_str (r2.drewN j) ys[k].cap)
      have HSE := Lib.hid (str_eq r1.2.2.1 r2.2.2.1)
      have HTK := Lib.hid (q_take hkx hky HEQ.out)
      have HNE := Lib.hid (q_ne hkx hky)
      clear q p r1 r2
      generalize xs[k] = x at *
      generalize ys[k] = y at *
      obtain ⟨xi, xt, xk, xd, XA, xc⟩ := x
      obtain ⟨yi, yt, yk, yd, YA, yc⟩ := y
      unfold XE.q at HTK HNE
      simp only at q0 q1 q2 q3 p0 p1 p2 p3 HD1 HD2 HSE HTK HNE
      have k0 : (0 : Int) ≤ (k : Int) := by omega
      have k1 : (k : Int) < (n : Int) := by omega
      have c1 := HD1.out
      have c2 := HD2.out
      by_cases e0 : xi = yi
      rotate_left
      · have s0 : (xi == yi) = false := by simpa using e0
        have n0 : (xi != yi) = true := by simpa using e0
        have d0 : decide (xi = yi) = false := decide_eq_false e0
        have HF := Lib.hid (HNE.out (fun h => e0 (by exact congrArg Prod.fst h)))
        go_wp2_with fail
        go_quiet (fail)
        go_wp2
        go_ret
        exact SameIs.no HF.out (HST.out.trans (Still.drewN (Still.refl _) _))
      have s0 : (xi == yi) = true := by simpa using e0
      by_cases e1 : xt = yt
      rotate_left
      · have s1 : (xt == yt) = false := by simpa using e1
        have n1 : (xt != yt) = true := by simpa using e1
        have d1 : decide (xt = yt) = false := decide_eq_false e1
        have HF := Lib.hid (HNE.out (fun h => e1 (by exact congrArg (fun z => z.2.1) h)))
        go_wp2_with fail
        go_quiet (fail)
        go_wp2
        go_ret
        exact SameIs.no HF.out (HST.out.trans (Still.drewN (Still.refl _) _))
      have s1 : (xt == yt) = true := by simpa using e1
      by_cases e2 : xk = yk
      rotate_left
      · have s2 : (xk == yk) = false := by simpa using e2
        have n2 : (xk != yk) = true := by simpa using e2
        have d2 : decide (xk = yk) = false := decide_eq_false e2
        have HF := Lib.hid (HNE.out (fun h => e2 (by exact congrArg (fun z => z.2.2.1) h)))
        go_wp2_with fail
        go_quiet (fail)
        go_wp2
        go_ret
        exact SameIs.no HF.out (HST.out.trans (Still.drewN (Still.refl _) _))
      have s2 : (xk == yk) = true := by simpa using e2
      have t3 := HSE.out
      generalize Fld.str xd = SX at *
      generalize Fld.str yd = SY at *
      by_cases e3 : xd = yd
      rotate_left
      · have t4 : (SX.toList == SY.toList) = false := by rw [t3]; simp [e3]
        have HF := Lib.hid (HNE.out (fun h => e3 (congrArg (fun z => z.2.2.2) h)))
        clear e3 t3
        generalize xd.length = DX at *
        generalize yd.length = DY at *
        go_wp2_with fail
        go_quiet (fail)
        go_wp2
        go_ret
        exact SameIs.no HF.out (HST.out.trans (Still.drewN (Still.refl _) _))
      have t4 : (SX.toList == SY.toList) = true := by rw [t3]; simp [e3]
      have HF := Lib.hid (HTK.out (by rw [e0, e1, e2, e3]))
      clear e3 t3
      generalize xd.length = DX at *
      generalize yd.length = DY at *
      go_wp2_with fail
      go_quiet (fail)
      go_wp2
      go_roundw
      case rel => exact ⟨k + 1, by omega, by go_num, HST.out.trans (Still.drewN (Still.refl _) _), HF.out⟩
      case measure => simp [intOf]; omega
    · obtain rfl : k = n := by omega
      have HFI := Lib.hid (show SameIs xs ys w (.returned (.bool true)) wr from ⟨true, rfl, by have h := HEQ.out; rw [List.take_of_length_le (by have := HLX.out; omega), List.take_of_length_le (by have := HLY.out; omega)] at h; simp [h], HST.out⟩)
      go_wp2
      go_ret
      exact HFI.out
end Go.Proofs.YtnppomiggajhnaaGreatDoor.Wl

namespace Go.Proofs.YtnppomiggajhnaaGreatDoor.Wl
open Go.RowKit Go.Proofs.YtnppomiggajhnaaGreatDoor.Fld
set_option linter.unusedVariables false

theorem cost_x (l : List XE) : cost (l.map XE.e) = 88 * l.length + dsum l := by
  unfold cost dsum
  induction l with
  | nil => rfl
  | cons x l ih =>
    simp only [List.map_cons, List.sum_cons, List.length_cons] at ih ⊢
    rw [ih]
    show 88 + x.d.length + _ = _
    omega
/-- a Wal and its disk, above all that was there -/
def Wa (w0 : World) (W g b lim : Nat) (w : World) (c : Ct) (t : Dk.St) : Prop := (∃ m ve vs xs, WmX w0.heap.size W g b lim m ve vs xs w c t) ∧ Below w0.heap.size w0 w
theorem Wa.below {w0 w w' : World} {W g b lim : Nat} {c : Ct} {t : Dk.St} (h : Wa w0 W g b lim w c t) (hb : Below w.heap.size w w') : Wa w0 W g b lim w' c t := by
  obtain ⟨⟨m, ve, vs, xs, hX⟩, hB⟩ := h
  exact ⟨⟨m, ve, vs, xs, hX.below hb⟩, hB.trans (hb.mono hB.size)⟩
theorem Wa.of {w0 w w' : World} {W g b lim : Nat} {F F' : List Nat} {c : Ct} {t : Dk.St} (hB : Below w0.heap.size w0 w) (hF : ∀ i ∈ F, w0.heap.size ≤ i) (h : WmS w0.heap.size W g b lim F' w' c t) (hf : Dk.Fr F w w') : Wa w0 W g b lim w' c t := by
  obtain ⟨m, ve, vs, xs, hX, _⟩ := h
  exact ⟨⟨m, ve, vs, xs, hX⟩, hf.to_below hB hF⟩
/-- the bytes of entries that came in lie below -/
theorem RdX.low {w0 : World} {A : Option Addr} {n : Nat} {l : List XE} (h : RdX w0 A n l) : ∀ x ∈ l, 0 < x.d.length → ∀ a, x.A = some a → a.block < w0.heap.size := by
  intro x hx hp a ha
  obtain ⟨b, off, hA, hc⟩ := (h.2.2.2 x hx).1.2.2.2 hp
  rw [hA] at ha
  cases ha
  exact lt_of_cell (hc 0 hp)
/-- what Append answers and leaves -/
def AppB (w0 : World) (W g b lim R T : Nat) (P : Lg → Prop) (l : List XE) (c : Ct) (t : Dk.St) (e : Ending) (w' : World) : Prop :=
  ∃ (z : Int) (c' : Ct) (t' : Dk.St), e = .returned (.int .i64 z) ∧ Wa w0 W g b lim w' c' t' ∧
    ((z = 1 ∧ c' = c ∧ t' = t) ∨ (z = 7 ∧ c' = c ∧ t' = t) ∨ (z = 0 ∧ (∀ x ∈ l, okX x = true) ∧ c'.lg = addAll c.lg (l.map XE.e) ∧ Cm R (T + cost (l.map XE.e)) (fun g => P g ∨ ∃ i, i ≤ l.length ∧ g = addAll c.lg ((l.map XE.e).take i)) c' t'))
theorem app_cm {w0 w : World} {W g b lim R T : Nat} {P : Lg → Prop} {c : Ct} {t : Dk.St} (h : Wa w0 W g b lim w c t) (hc : Cm R T P c t) (hT : T ≤ 400000) (hes : c.lg.es.length ≤ 1000000) (A : Option Addr) (n cap : Nat) (l : List XE) (hr : RdX w A n l) (hn : n ≤ 100000) (hlow : ∀ x ∈ l, 0 < x.d.length → ∀ a, x.A = some a → a.block < w0.heap.size) (hcost : (∀ x ∈ l, okX x = true) → T + cost (l.map XE.e) ≤ R) :
    Calls Tryz.prog 21 #[.pointer (some ⟨W, 0, none⟩), .slice A n cap] w (AppB w0 W g b lim R T P l c t) := by
  obtain ⟨⟨m, ve, vs, xs, hX⟩, hB⟩ := h
  obtain ⟨k1, L, S, k2, k3, k4⟩ := hc.few
  refine (wappend_any hX k2 (by omega) (by omega) (by omega) hes A n cap l hr hn (fun x hx hp a ha hm => by have := hlow x hx hp a ha; have := hX.low _ hm; omega)).mono ?_
  rintro e w' (⟨_, rfl, hb⟩ | ⟨_, _, rfl, hb⟩ | ⟨hok, hseq, rfl, hq⟩)
  · exact ⟨1, c, t, rfl, (Wa.below ⟨⟨m, ve, vs, xs, hX⟩, hB⟩ hb), .inl ⟨rfl, rfl, rfl⟩⟩
  · exact ⟨7, c, t, rfl, (Wa.below ⟨⟨m, ve, vs, xs, hX⟩, hB⟩ hb), .inr (.inl ⟨rfl, rfl, rfl⟩)⟩
  · have hEO : ∀ e ∈ l.map XE.e, e.Ok := by
      intro e he
      obtain ⟨x, hx, rfl⟩ := List.mem_map.1 he
      exact XE.e_ok (hok x hx) (hr.2.2.2 x hx).1.2.2.1
    obtain ⟨q1, q2, q3⟩ := hc.app lim (l.map XE.e) hX.ct.ok.1.1 hEO hseq (hcost hok)
    rcases hq with ⟨_, F', hS, hf, _⟩ | ⟨h0, _⟩
    · refine ⟨0, _, _, by rw [q1], Wa.of hB (fun i hi => hX.low i hi) hS hf, .inr (.inr ⟨rfl, hok, q2, ?_⟩)⟩
      simpa using q3
    · exact absurd q1 h0
/-- what Sync answers and leaves -/
theorem syn_cm {w0 w : World} {W g b lim R T : Nat} {P : Lg → Prop} {c : Ct} {t : Dk.St} (h : Wa w0 W g b lim w c t) (hc : Cm R T P c t) (hT : T ≤ 400000) :
    Calls Tryz.prog 24 #[.pointer (some ⟨W, 0, none⟩)] w fun e w' => e = .returned (.int .i64 0) ∧ ∃ t', Wa w0 W g b lim w' c t' ∧ Cm R T (fun g => g = c.lg) c t' := by
  obtain ⟨⟨m, ve, vs, xs, hX⟩, hB⟩ := h
  obtain ⟨k1, L, S, k2, k3, k4⟩ := hc.few
  obtain ⟨q1, q2, q3⟩ := hc.syn
  refine (waSync_any hX k2 (by omega) (by omega)).mono ?_
  rintro e w' ⟨rfl, ⟨_, F', hS, hf, _⟩ | ⟨h0, _⟩⟩
  · refine ⟨by rw [q1], _, Wa.of hB (fun i hi => hX.low i hi) (by rw [q2] at hS; exact hS) hf, by rw [q2] at q3; exact q3⟩
  · exact absurd q1 h0
/-- an empty disk is opened -/
theorem open_cm {w0 w : World} {g b : Nat} (R : Nat) (hR : 35 ≤ R) (h : Dk.Sn w0 w g b [] (Dk.st0 R)) (hB : Base w0) (lim : Nat) (h1 : 32 ≤ lim) (h2 : lim ≤ 65536) :
    Calls Tryz.prog 13 #[.pointer (some ⟨g, 0, none⟩), .int .i64 (lim : Int)] w fun e w' => e = .returned (.tuple #[.pointer (some ⟨w.heap.size, 0, none⟩), .int .i64 0]) ∧ ∃ c t, Wa w0 w.heap.size g b lim w' c t ∧ Cm R 35 (fun g => g = ⟨0, []⟩) c t ∧ c.lg = ⟨0, []⟩ := by
  obtain ⟨k1, k2, k3, k4⟩ := cm_empty R hR
  refine (open_any (lo := w0.heap.size) (lim := lim) h.1 (hB.below h.2.1) h.2.2 h.2.1.size hB.lt h1 h2 rfl (by simp [Dk.st0])).mono ?_
  rintro e w' ⟨hr, F', hS, hf, _⟩
  rcases hr with ⟨_, rfl⟩ | ⟨hz, _⟩
  · exact ⟨rfl, _, _, Wa.of h.2.1 h.2.2 hS hf, k3, k2⟩
  · exact absurd k1 hz
/-- behind a crash the log is opened -/
theorem reopen_cm {w0 w : World} {W g b lim R T : Nat} {P : Lg → Prop} {c : Ct} {t : Dk.St} {m : List Dk.Ent} (hc : Cm R T P c t) (hr : 2 * T + 35 ≤ R) (hT : T ≤ 400000) (hP : ∀ g, P g → g.last ≤ MI) (ks : List Int) (h : Dk.Sn w0 w g b m (Dk.stCrash ks t)) (hB : Base w0) (h1 : 32 ≤ lim) (h2 : lim ≤ 65536) :
    Calls Tryz.prog 13 #[.pointer (some ⟨g, 0, none⟩), .int .i64 (lim : Int)] w fun e w' => e = .returned (.tuple #[.pointer (some ⟨w.heap.size, 0, none⟩), .int .i64 0]) ∧ ∃ c t, Wa w0 w.heap.size g b lim w' c t ∧ P c.lg := by
  obtain ⟨k1, k2, k3, k4⟩ := hc.crash hr hP ks ct0
  obtain ⟨q1, _⟩ := hc.few
  refine (open_any (lo := w0.heap.size) (lim := lim) h.1 (hB.below h.2.1) h.2.2 h.2.1.size hB.lt h1 h2 k1 (by omega)).mono ?_
  rintro e w' ⟨hr, F', hS, hf, _⟩
  rcases hr with ⟨_, rfl⟩ | ⟨hz, _⟩
  · exact ⟨rfl, _, _, Wa.of h.2.1 h.2.2 hS hf, k4⟩
  · exact absurd k3 hz
end Go.Proofs.YtnppomiggajhnaaGreatDoor.Wl

namespace Go.Proofs.YtnppomiggajhnaaGreatDoor.Wl
open Go.RowKit Go.Proofs.YtnppomiggajhnaaGreatDoor.Fld
set_option linter.unusedVariables false

theorem one_entry (w : World) (a b c : Int) (ty : TypeId) : RdX (w.alloc (.cells #[.int .i64 a, .int .i64 b, .int .i64 c, .slice none 0 0] ty)) (some ⟨w.heap.size, 0, none⟩) 1 [⟨a, b, c, [], none, 0⟩] := by
  have hk := Blk.new w #[.int .i64 a, .int .i64 b, .int .i64 c, .slice none 0 0] ty
  refine ⟨rfl, by unfold maxLen; omega, fun _ => ⟨_, _, rfl, fun i hi j hj => ?_⟩, fun x hx => ?_⟩
  · have hi0 : i = 0 := by simp at hi; exact hi
    subst hi0
    rw [show (0 : Nat) + 0 * 4 + j = j by omega]
    rcases j with _ | _ | _ | _ | j
    · exact hk.cell 0 _ rfl
    · exact hk.cell 1 _ rfl
    · exact hk.cell 2 _ rfl
    · exact hk.cell 3 _ rfl
    · omega
  · simp at hx
    subst hx
    exact ⟨Rd.nil _, fun _ => rfl⟩
theorem one_step (w : World) (A : Option Addr) (n cap : Nat) (l : List XE) (ty : TypeId) (h : RdX w A n l) : RdT (w.alloc (.cells #[.int .i64 0, .int .i64 0, .int .i64 0, .slice A n cap, .slice none 0 0] ty)) (some ⟨w.heap.size, 0, none⟩) 1 [⟨0, 0, 0, A, n, cap, l, none, 0, 0, []⟩] := by
  have hk := Blk.new w #[.int .i64 0, .int .i64 0, .int .i64 0, .slice A n cap, .slice none 0 0] ty
  refine ⟨rfl, by unfold maxLen; omega, fun _ => ⟨_, _, rfl, fun i hi j hj => ?_⟩, fun x hx => ?_⟩
  · have hi0 : i = 0 := by simp at hi; exact hi
    subst hi0
    rw [show (0 : Nat) + 0 * 5 + j = j by omega]
    rcases j with _ | _ | _ | _ | _ | j
    · exact hk.cell 0 _ rfl
    · exact hk.cell 1 _ rfl
    · exact hk.cell 2 _ rfl
    · exact hk.cell 3 _ rfl
    · exact hk.cell 4 _ rfl
    · omega
  · simp at hx
    subst hx
    exact ⟨h.below (alloc_below' _ _), rfl, show 0 ≤ maxLen by unfold maxLen; omega, fun h => absurd h (Nat.lt_irrefl 0)⟩
theorem Wa.sn {w0 w : World} {W g b lim : Nat} {c : Ct} {t : Dk.St} (h : Wa w0 W g b lim w c t) : ∃ m, Dk.Sn w0 w g b m t := by
  obtain ⟨⟨m, ve, vs, xs, hX⟩, hB⟩ := h
  exact ⟨m, hX.im, hB, fun i hi => hX.low i (wft_disk _ hi)⟩
theorem getL_all (es r : List E) (n : Nat) (h : es.length = n) : getL ⟨0, es ++ r⟩ 1 (n : Int) = es := by
  unfold getL
  split
  · rename_i hc
    simp only [Lg.last, List.length_append] at hc
    have : es.length = 0 := by omega
    exact (List.length_eq_zero_iff.1 this).symm
  · have e : ((1 : Int) - ((0 : Nat) : Int) - 1).toNat = 0 := by omega
    simp only [e, List.drop_zero, Int.toNat_natCast]
    rw [← h, List.take_left]
set_option maxRecDepth 100000 in
set_option maxHeartbeats 6400000 in
theorem back_walk (lim : Int) (A : Option Addr) (n cap : Nat) (l : List XE) (KA : Option Addr) (kn kc : Nat) (ks : List Int) (w : World) (hB : Base w) (hr : RdX w A n l) (hk : Dk.RdI w KA kn ks) :
    Calls Tryz.prog 6 #[.int .i64 lim, .slice A n cap, .slice KA kn kc] w fun e w' => e = .returned (.bool true) ∧ Below w.heap.size w w' := by
  have HB := Lib.hid hB
  have HR := Lib.hid hr
  have HK := Lib.hid hk
  have HLOW := Lib.hid hr.low
  have HN := Lib.hid hr.1
  have HAW := Lib.hid (awake_any w hB)
  clear hB hr hk
  go_enter Tryz.func6, Tryz.ntmps6
  go_wp2_with fail
  refine HAW.out.mono ?_
  rintro e w1 ⟨rfl, hb1⟩
  have HST := Lib.hid (one_step w1 A n cap l 45 (HR.out.below hb1))
  have HB1 := Lib.hid hb1
  have HB2 := Lib.hid (hb1.alloc hb1.size (.cells #[.int .i64 0, .int .i64 0, .int .i64 0, .slice A n cap, .slice none 0 0] 45))
  clear hb1 HAW
  go_wp2_with fail
  have HM := Lib.hid (much_any _ 1 1 _ _ HST.out)
  refine HM.out.mono ?_
  rintro e w2 ⟨mb, rfl, rfl, hmu⟩
  clear HM
  obtain ⟨w2, hw2⟩ : ∃ w2, w1.alloc (.cells #[.int .i64 0, .int .i64 0, .int .i64 0, .slice A n cap, .slice none 0 0] 45) = w2 := ⟨_, rfl⟩
  rw [hw2] at HB2 HST ⊢
  clear HST HB1 hw2
  cases mb with
  | true =>
    go_wp2
    go_ret
    exact ⟨rfl, HB2.out⟩
  | false =>
  have hmu := hmu rfl
  have HMU := Lib.hid (show n ≤ 1000 ∧ (tamX l → 30 * n + dsum l ≤ 30000) from by
    obtain ⟨h1, h2⟩ := hmu
    refine ⟨h1 ⟨0, 0, 0, A, n, cap, l, none, 0, 0, []⟩ (by simp), fun ht => ?_⟩
    have h3 := h2 (by intro x hx; simp at hx; subst hx; exact ht)
    simpa [wsum, Stp.wt] using h3)
  clear hmu
  by_cases hl1 : lim < 32
  · go_wp2
    go_ret
    exact ⟨rfl, HB2.out⟩
  by_cases hl2 : 65536 < lim
  · go_wp2
    go_ret
    exact ⟨rfl, HB2.out⟩
  obtain ⟨lm, rfl⟩ : ∃ lm : Nat, lim = (lm : Int) := ⟨lim.toNat, by omega⟩
  have hm1 : 32 ≤ lm := by omega
  have hm2 : lm ≤ 65536 := by omega
  have HNW := Lib.hid (Dk.new_sn 200000 w2 (by omega) (by omega))
  go_wp2_with fail
  refine HNW.out.mono ?_
  rintro e w3 ⟨b, g, rfl, hsn⟩
  have HSN := Lib.hid (show Dk.Sn w w3 g b [] (Dk.st0 200000) from ⟨hsn.1, HB2.out.trans (hsn.2.1.mono HB2.out.size), fun i hi => by have := hsn.2.2 i hi; have := HB2.out.size; omega⟩)
  clear hsn HNW
  have HOP := Lib.hid (open_cm 200000 (by omega) HSN.out HB.out lm hm1 hm2)
  go_wp2_with fail
  refine HOP.out.mono ?_
  rintro e w4 ⟨rfl, c, t, hWa, hCm, hlg⟩
  have HWA := Lib.hid hWa
  have HCM := Lib.hid hCm
  have HLG := Lib.hid hlg
  clear hWa hCm hlg HOP
  generalize w3.heap.size = W at *
  have HAP := Lib.hid (app_cm HWA.out HCM.out (by omega) (by rw [HLG.out]; simp) A n cap l (HR.out.below HWA.out.2) (by have := HMU.out.1; omega) HLOW.out (fun hok => by
    have h1 := HMU.out.2 (fun y hy => by have := (okX_iff y).1 (hok y hy); omega)
    have h2 := HMU.out.1
    have h3 := HN.out
    rw [cost_x]
    omega))
  go_wp2_with fail
  refine HAP.out.mono ?_
  rintro e w5 ⟨z, c5, t5, rfl, hWa, hz⟩
  clear HAP
  rcases hz with ⟨rfl, rfl, rfl⟩ | ⟨rfl, rfl, rfl⟩ | ⟨rfl, hok, hlg, hCm⟩
  · have HSY := Lib.hid (syn_cm hWa HCM.out (by omega))
    clear hWa
    go_wp2_with fail
    refine HSY.out.mono ?_
    rintro e w6 ⟨rfl, t6, hWa, _⟩
    have HBE := Lib.hid hWa.2
    clear hWa
    go_wp2
    go_ret
    exact ⟨rfl, HBE.out⟩
  · have HSY := Lib.hid (syn_cm hWa HCM.out (by omega))
    clear hWa
    go_wp2_with fail
    refine HSY.out.mono ?_
    rintro e w6 ⟨rfl, t6, hWa, _⟩
    have HBE := Lib.hid hWa.2
    clear hWa
    go_wp2
    go_ret
    exact ⟨rfl, HBE.out⟩
  have HOK := Lib.hid hok
  obtain ⟨es, hes⟩ : ∃ es, l.map XE.e = es := ⟨_, rfl⟩
  have hel : es.length = n := by rw [← hes, List.length_map]; exact HN.out
  have hcost : cost es ≤ 88000 := by
    rw [← hes, cost_x]
    have h1 := HMU.out.2 (fun y hy => by have := (okX_iff y).1 (hok y hy); omega)
    have h2 := HMU.out.1
    have h3 := HN.out
    omega
  have HES := Lib.hid hes
  have HEL := Lib.hid hel
  have hlg2 : c5.lg = ⟨0, es⟩ := by rw [hlg, HLG.out, hes]; simp [addAll]
  have HLG2 := Lib.hid hlg2
  rw [hes] at hCm
  have HSY := Lib.hid (syn_cm hWa hCm (by omega))
  clear hWa hCm hlg hlg2 hok hes hel HWA HCM HLG
  go_wp2_with fail
  refine HSY.out.mono ?_
  rintro e w6 ⟨rfl, t6, hWa, hCm⟩
  have HWA := Lib.hid hWa
  have HCM := Lib.hid hCm
  clear hWa hCm HSY
  have HLA := Lib.hid (show Calls Tryz.prog 30 #[.pointer (some ⟨W, 0, none⟩)] w6 (fun e w' => e = .returned (.int .i64 (n : Int)) ∧ Still w6 w') from by
    obtain ⟨⟨m, ve, vs, xs, hX⟩, _⟩ := HWA.out
    have h := lastW_any hX
    rw [HLG2.out] at h
    have e1 : (Lg.last ⟨0, es⟩ : Nat) = n := by simp [Lg.last, HEL.out]
    rw [e1] at h
    exact h)
  have hn1 := HMU.out.1
  go_wp2_with fail
  refine HLA.out.mono ?_
  rintro e w7 ⟨rfl, hst7⟩
  have HWA7 := Lib.hid ((HWA.out.below (still_below hst7)).below (alloc_below' w7 (.cells #[.int .i64 ((n : Int) + 1), .int .i64 0, .int .i64 0, .slice none 0 0] 63)))
  clear hst7 HLA HWA
  have HAP := Lib.hid (app_cm HWA7.out HCM.out (by omega) (by rw [HLG2.out]; simp only; have := HEL.out; omega) _ 1 1 _ (one_entry w7 ((n : Int) + 1) 0 0 63) (by omega) (fun x hx hp => by simp at hx; subst hx; simp at hp) (fun _ => by rw [cost_x]; simp [dsum]; omega))
  go_wp2_with fail
  refine HAP.out.mono ?_
  rintro e w8 ⟨z, c8, t8, rfl, hWa, hz⟩
  have HCM8 := Lib.hid (show ∃ T', T' ≤ 90000 ∧ Cm 200000 T' (fun g => ∃ r : List E, r.length ≤ 1 ∧ g = ⟨0, es ++ r⟩) c8 t8 from by
    have hold : ∀ g, g = c5.lg → ∃ r : List E, r.length ≤ 1 ∧ g = ⟨0, es ++ r⟩ := fun g hg => ⟨[], by simp, by rw [hg, HLG2.out]; simp⟩
    rcases hz with ⟨_, rfl, rfl⟩ | ⟨_, rfl, rfl⟩ | ⟨_, hok, hlg, hCm⟩
    · exact ⟨_, by omega, HCM.out.mono hold⟩
    · exact ⟨_, by omega, HCM.out.mono hold⟩
    · refine ⟨_, ?_, hCm.mono ?_⟩
      · rw [cost_x]; simp [dsum]; omega
      · rintro g (hg | ⟨i, hi, hg⟩)
        · exact hold g hg
        · refine ⟨_, ?_, by rw [hg, HLG2.out]; rfl⟩
          rw [List.length_take]
          exact Nat.min_le_right _ _)
  have HWA8 := Lib.hid hWa
  clear hz hWa HAP HCM HWA7
  obtain ⟨T', hT', hCm⟩ := HCM8.out
  obtain ⟨m8, hsn8⟩ := HWA8.out.sn
  have HCR := Lib.hid (Dk.crash_sn hsn8 KA kn kc ks (by have := hCm.few.1; omega) (rdI_below HK.out hsn8.2.1) (fun hp a ha hm => by
    obtain ⟨kb, ko, hA, hc⟩ := HK.out.2.2 hp
    rw [hA] at ha
    cases ha
    have h1 : kb < w.heap.size := lt_of_cell (hc 0 hp)
    have h2 := hsn8.2.2 _ hm
    simp only at h2
    omega))
  have HCM9 := Lib.hid hCm
  clear hsn8 hCm HCM8
  go_wp2_with fail
  refine HCR.out.mono ?_
  rintro e w9 ⟨rfl, m9, hsn9⟩
  have HOP := Lib.hid (reopen_cm (W := 0) (lim := lm) HCM9.out (by omega) (by omega) (fun g hg => by
    obtain ⟨r, hr, rfl⟩ := hg
    simp only [Lg.last, List.length_append, MI]
    have := HEL.out
    omega) ks hsn9 HB.out hm1 hm2)
  clear hsn9 HCR
  go_wp2_with fail
  refine HOP.out.mono ?_
  rintro e w10 ⟨rfl, c10, t10, hWa, hP⟩
  have HBE := Lib.hid hWa.2
  have HGE := Lib.hid (show Calls Tryz.prog 27 #[.pointer (some ⟨w9.heap.size, 0, none⟩), .int .i64 1, .int .i64 (n : Int)] w10 (GetIs w10 es) from by
    obtain ⟨⟨m, ve, vs, xs, hX⟩, _⟩ := hWa
    obtain ⟨r, hr, hg⟩ := hP
    have h := wget_any hX (by rw [hg]; simp only [List.length_append]; have := HEL.out; omega) 1 (n : Int)
    rw [hg, getL_all es r n HEL.out] at h
    exact h)
  clear hWa hP HOP
  go_wp2_with fail
  refine HGE.out.mono ?_
  intro e w11 hge
  obtain ⟨GA, gcap, ys, rfl, hrd, hq, hb⟩ := get_rdx hge
  have HQ := Lib.hid (show ys.map XE.q = l.map XE.q by rw [hq, qs_e HOK.out, HES.out])
  have HB11 := Lib.hid (HBE.out.trans (hb.mono HBE.out.size))
  have HSA := Lib.hid (same_any GA ys.length gcap ys A n cap l w11 hrd (HR.out.below HB11.out))
  clear hge hrd hq hb HGE
  go_wp2_with fail
  refine HSA.out.mono ?_
  rintro e w12 ⟨b12, rfl, hb12, hst12⟩
  have hb12 := hb12.2 HQ.out
  subst hb12
  have HFI := Lib.hid (HB11.out.trans ((still_below hst12).mono HB11.out.size))
  clear hst12 HSA
  go_wp2
  go_ret
  exact ⟨rfl, HFI.out⟩
end Go.Proofs.YtnppomiggajhnaaGreatDoor.Wl

namespace Go.Proofs.YtnppomiggajhnaaGreatDoor.Wl
open Go.RowKit Go.ChangeShapes Go.WideShapes Go.Deep Go.Proofs.YtnppomiggajhnaaGreatDoor.Fld
set_option linter.unusedVariables false

theorem cell_one {α : Type} {l : List α} (j : Nat) {v : α} (h : l[j]? = some v) : (l.drop j).take 1 = [v] := by
  obtain ⟨hj, he⟩ := List.getElem?_eq_some_iff.1 h
  rw [List.drop_eq_getElem_cons hj, he]
  rfl
section
variable {H : Type} {encH : TypeId × Value → H} {w : World} {base : Nat} {spare : Nat → Bool} {held : Bool}
theorem open_bytes {fuel : Nat} {v : Value} {x : DataW H × List MemPlace} (h : DataW.trod encH Tryz.prog w base spare held fuel 61 [v] = some x) : ∃ A n cap zs, v = .slice A n cap ∧ Rd w A n zs ∧ (A = none → cap = 0) := by
  rcases open_ints Tryz.underlying61 Tryz.underlying5 (by kernel_rfl) h with ⟨hcs, _⟩ | ⟨a, l, c, zs, hcs, _, hl, hm, hz, _, hcell, hwz⟩
  · simp at hcs
    exact ⟨none, 0, 0, [], hcs, Rd.nil w, fun _ => rfl⟩
  · simp at hcs
    refine ⟨some a, l, c, zs.take l, hcs, ?_, fun h => by cases h⟩
    have hzl : l ≤ zs.length := by rw [hz]; split <;> omega
    have hzc : zs.length ≤ maxLen := by rw [hz]; split <;> omega
    exact Rd.of_cells hzl hzc rfl hcell hwz
theorem open_numsI {fuel : Nat} {v : Value} {x : DataW H × List MemPlace} (h : DataW.trod encH Tryz.prog w base spare held fuel 43 [v] = some x) : ∃ A n cap zs, v = .slice A n cap ∧ Dk.RdI w A n zs := by
  rcases open_ints Tryz.underlying43 Tryz.underlying3 (by kernel_rfl) h with ⟨hcs, _⟩ | ⟨a, l, c, zs, hcs, _, hl, hm, hz, _, hcell, hwz⟩
  · simp at hcs
    exact ⟨none, 0, 0, [], hcs, rfl, by unfold maxLen; omega, fun h => by omega⟩
  · simp at hcs
    have hzl : l ≤ zs.length := by rw [hz]; split <;> omega
    have hzc : zs.length ≤ maxLen := by rw [hz]; split <;> omega
    refine ⟨some a, l, c, zs.take l, hcs, by rw [List.length_take]; omega, by omega, fun hn => ?_⟩
    obtain ⟨b, off, spot⟩ := a
    have h0 := hcell 0 (by omega)
    have hspot : spot = none := by simpa [Addr.add] using World.cell?_spot h0
    subst hspot
    refine ⟨b, off, rfl, fun i hi => ?_⟩
    have := hcell i (by omega)
    rw [List.getD_eq_getElem?_getD, List.getElem?_take, if_pos hi, ← List.getD_eq_getElem?_getD, ← this, add_atB]
theorem cell_of {n off : Nat} {t : TypeId} {cs : List Value} {y : Option (DataW H × List MemPlace)} (hy : y.isSome = true) (hc : Tryz.prog.cellsOf t = 1) (hl : off < cs.length) (h : DataW.trod encH Tryz.prog w base spare held n t ((cs.drop off).take (Tryz.prog.cellsOf t)) = y) :
    ∃ v z, cs[off]? = some v ∧ DataW.trod encH Tryz.prog w base spare held n t [v] = some z := by
  obtain ⟨z, rfl⟩ := Option.isSome_iff_exists.1 hy
  rw [hc, cell_one off (List.getElem?_eq_getElem hl)] at h
  exact ⟨_, z, List.getElem?_eq_getElem hl, h⟩
/-- four cells that read as an entry -/
theorem open_entry {n : Nat} {cs : List Value} {x : DataW H × List MemPlace} (h : DataW.trod encH Tryz.prog w base spare held n 63 cs = some x) (hl : cs.length = 4) : ∃ y : XE, y.At w ∧ cs = y.cells := by
  obtain ⟨ys, n', _, _, _, hyl, hf⟩ := DataW.trod_struct Tryz.underlying63 h
  have hsz : ys.length = 4 := hyl
  obtain ⟨v0, z0, c0, t0⟩ := cell_of (off := 0) (t := 3) (by rw [List.getElem?_eq_getElem (by omega)]; rfl) (by kernel_rfl) (by omega) (hf 0 _ rfl)
  obtain ⟨v1, z1, c1, t1⟩ := cell_of (off := 1) (t := 3) (by rw [List.getElem?_eq_getElem (by omega)]; rfl) (by kernel_rfl) (by omega) (hf 1 _ rfl)
  obtain ⟨v2, z2, c2, t2⟩ := cell_of (off := 2) (t := 3) (by rw [List.getElem?_eq_getElem (by omega)]; rfl) (by kernel_rfl) (by omega) (hf 2 _ rfl)
  obtain ⟨v3, z3, c3, t3⟩ := cell_of (off := 3) (t := 61) (by rw [List.getElem?_eq_getElem (by omega)]; rfl) (by kernel_rfl) (by omega) (hf 3 _ rfl)
  obtain ⟨a, ha, _, _⟩ := DataW.trod_int Tryz.underlying3 t0
  obtain ⟨b, hb, _, _⟩ := DataW.trod_int Tryz.underlying3 t1
  obtain ⟨c, hc, _, _⟩ := DataW.trod_int Tryz.underlying3 t2
  obtain ⟨BA, bn, bc, bs, hbb, hbr, hbz⟩ := open_bytes t3
  simp only [List.cons.injEq, and_true] at ha hb hc
  have hbl := hbr.1
  subst hbl
  refine ⟨⟨a, b, c, bs, BA, bc⟩, ⟨hbr, hbz⟩, ?_⟩
  apply List.ext_getElem?
  intro k
  rcases k with _ | _ | _ | _ | k
  · rw [c0, ha]; rfl
  · rw [c1, hb]; rfl
  · rw [c2, hc]; rfl
  · rw [c3, hbb]; rfl
  · rw [List.getElem?_eq_none (by omega), List.getElem?_eq_none (by simp [XE.cells])]
set_option maxRecDepth 100000 in
theorem open_entries {fuel : Nat} {v : Value} {x : DataW H × List MemPlace} (h : DataW.trod encH Tryz.prog w base spare held fuel 42 [v] = some x) : ∃ A len cap ls, v = .slice A len cap ∧ RdX w A len ls := by
  rcases open_slice Tryz.underlying42 h with ⟨hcs, _⟩ | ⟨a, len, cap, m, n, D, Pl, hcs, hb, hl, hm, hmm, hx, hi⟩
  · simp at hcs
    exact ⟨none, 0, 0, [], hcs, rfl, by unfold maxLen; omega, fun h => by omega, fun x hx => by simp at hx⟩
  · simp at hcs
    have hlm : len ≤ m := by rw [hmm]; split <;> omega
    have hC : Tryz.prog.cellsOf 63 = 4 := by kernel_rfl
    have each : ∀ i, ∃ q : XE, i < len → q.At w ∧ ∀ j, j < 4 → w.cell? (a.add (i * 4 + j)) = q.cells[j]? := by
      intro i
      by_cases hil : i < len
      · obtain ⟨cs', hc, ht'⟩ := hi i (by omega)
        rw [hC] at hc
        obtain ⟨_, hcl, hat⟩ := World.cells?_some hc
        obtain ⟨q, hq, he⟩ := open_entry ht' (by omega)
        refine ⟨q, fun _ => ⟨hq, fun j hj => ?_⟩⟩
        rw [← he, ← hat j (by omega), add_add]
      · exact ⟨xe0, fun h => absurd h hil⟩
    obtain ⟨f, hf⟩ := Classical.axiomOfChoice each
    clear each
    refine ⟨some a, len, cap, (List.range len).map f, hcs, by simp, by omega, fun hp => ?_, ?_⟩
    · obtain ⟨b, off, sp⟩ := a
      have hspot : sp = none := by
        have h0 := (hf 0 hp).2 0 (by omega)
        have h1 : w.cell? ((⟨b, off, sp⟩ : Addr).add (0 * 4 + 0)) = some (.int .i64 (f 0).i) := h0
        simpa [Addr.add] using World.cell?_spot h1
      subst hspot
      refine ⟨b, off, rfl, fun i hi' j hj => ?_⟩
      simp only [List.length_map, List.length_range] at hi'
      have hq := (hf i hi').2 j hj
      rw [add_atB, ← Nat.add_assoc] at hq
      rw [hq]
      simp
    · intro q hq
      simp only [List.mem_map, List.mem_range] at hq
      obtain ⟨i, hi2, rfl⟩ := hq
      exact (hf i hi2).1
/-- five cells that read as a step -/
theorem open_step {n : Nat} {cs : List Value} {x : DataW H × List MemPlace} (h : DataW.trod encH Tryz.prog w base spare held n 45 cs = some x) (hl : cs.length = 5) : ∃ s : Stp, s.At w ∧ cs = s.cells := by
  obtain ⟨ys, n', _, _, _, hyl, hf⟩ := DataW.trod_struct Tryz.underlying45 h
  have hsz : ys.length = 5 := hyl
  obtain ⟨v0, z0, c0, t0⟩ := cell_of (off := 0) (t := 3) (by rw [List.getElem?_eq_getElem (by omega)]; rfl) (by kernel_rfl) (by omega) (hf 0 _ rfl)
  obtain ⟨v1, z1, c1, t1⟩ := cell_of (off := 1) (t := 3) (by rw [List.getElem?_eq_getElem (by omega)]; rfl) (by kernel_rfl) (by omega) (hf 1 _ rfl)
  obtain ⟨v2, z2, c2, t2⟩ := cell_of (off := 2) (t := 3) (by rw [List.getElem?_eq_getElem (by omega)]; rfl) (by kernel_rfl) (by omega) (hf 2 _ rfl)
  obtain ⟨v3, z3, c3, t3⟩ := cell_of (off := 3) (t := 42) (by rw [List.getElem?_eq_getElem (by omega)]; rfl) (by kernel_rfl) (by omega) (hf 3 _ rfl)
  obtain ⟨v4, z4, c4, t4⟩ := cell_of (off := 4) (t := 43) (by rw [List.getElem?_eq_getElem (by omega)]; rfl) (by kernel_rfl) (by omega) (hf 4 _ rfl)
  obtain ⟨a, ha, _, _⟩ := DataW.trod_int Tryz.underlying3 t0
  obtain ⟨b, hb, _, _⟩ := DataW.trod_int Tryz.underlying3 t1
  obtain ⟨c, hc, _, _⟩ := DataW.trod_int Tryz.underlying3 t2
  obtain ⟨LA, ln, lc, ls, hll, hlr⟩ := open_entries t3
  obtain ⟨KA, kn, kc, ks, hkk, hkr⟩ := open_numsI t4
  simp only [List.cons.injEq, and_true] at ha hb hc
  refine ⟨⟨a, b, c, LA, ln, lc, ls, KA, kn, kc, ks⟩, ⟨hlr, hkr⟩, ?_⟩
  apply List.ext_getElem?
  intro k
  rcases k with _ | _ | _ | _ | _ | k
  · rw [c0, ha]; rfl
  · rw [c1, hb]; rfl
  · rw [c2, hc]; rfl
  · rw [c3, hll]; rfl
  · rw [c4, hkk]; rfl
  · rw [List.getElem?_eq_none (by omega), List.getElem?_eq_none (by simp [Stp.cells])]
end
end Go.Proofs.YtnppomiggajhnaaGreatDoor.Wl
