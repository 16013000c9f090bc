/-
  What the document's reader's Number and Whole answer, and what becomes of the reader. Conditions: the reader lies in memory as it was made.
-/
import Derived.Test.YtejphnbhcabchaaGreatFieldNext
namespace Go.Proofs.YtejphnbhcabchaaGreat.Fld
open Go.RowKit

theorem Three.lt {w : World} {h : Nat} {A : Option Addr} {n cap k : Nat} {bad : Bool} (t : Three w h A n cap k bad) : h < w.heap.size := by
  rcases Nat.lt_or_ge h w.heap.size with h' | h'
  · exact h'
  · unfold Three at t; rw [Array.getElem?_eq_none h'] at t; cases t
theorem Three.of_block {w w' : World} {h : Nat} {A : Option Addr} {n cap k : Nat} {bad : Bool} (t : Three w h A n cap k bad) (hb : w'.heap[h]? = w.heap[h]?) : Three w' h A n cap k bad := hb.trans t
theorem Three.set1 {w : World} {h : Nat} {A : Option Addr} {n cap k : Nat} {bad : Bool} (t : Three w h A n cap k bad) (x : Int) (k' : Nat) (hx : x = (k' : Int)) : Three (w.setCell ⟨h, 1, none⟩ (.int .i64 x)) h A n cap k' bad := by
  subst hx
  exact heap_setCell_same w h 1 _ _ _ t
theorem Three.set2 {w : World} {h : Nat} {A : Option Addr} {n cap k : Nat} {bad : Bool} (t : Three w h A n cap k bad) : Three (w.setCell ⟨h, 2, none⟩ (.bool true)) h A n cap k true :=
  heap_setCell_same w h 2 _ _ _ t
theorem Three.still {w w' : World} {h : Nat} {A : Option Addr} {n cap k : Nat} {bad : Bool} (t : Three w h A n cap k bad) (hs : Still w w') : Three w' h A n cap k bad := t.of_block (by rw [hs.1])
theorem Rd.chg3 {w w' : World} {h : Nat} {A : Option Addr} {m : Nat} {zs : List Int} (hr : Rd w A m zs) (hc : Chg h w w') {A' : Option Addr} {n cap k : Nat} {bad : Bool} (t : Three w h A' n cap k bad) : Rd w' A m zs := by
  refine hr.of_same fun a c ha => ?_
  have hlt := lt_of_cell ha
  have hne : a.block ≠ h := by
    rintro rfl
    unfold World.cell? at ha
    rw [t] at ha
    obtain ⟨b, off, sp⟩ := a
    rcases off with _ | _ | _ | off
    · cases sp <;> simp at ha
    · cases sp <;> simp at ha
    · cases sp <;> simp at ha
    · cases sp <;> simp at ha
  exact World.cell?_of_block (w := w) (hc.block _ hlt hne)
theorem Rd.still {w w' : World} {A : Option Addr} {m : Nat} {zs : List Int} (hr : Rd w A m zs) (hs : Still w w') : Rd w' A m zs := hr.of_same fun a _ _ => hs.cell a

/-- the document's reader, with what is left to read -/
def DocR (w : World) (h : Nat) (rest : List Int) (bad : Bool) : Prop := ∃ A n cap p zs, Doc w h A n cap p zs bad ∧ rest = zs.drop p
def DGot (h : Nat) (w : World) (v : Value) (rest : List Int) (bad : Bool) (e : Ending) (w' : World) : Prop := e = .returned v ∧ Chg h w w' ∧ DocR w' h rest bad
theorem Doc.moved {w w1 : World} {h : Nat} {A : Option Addr} {n cap p : Nat} {zs : List Int} (t : Doc w h A n cap p zs false) (hs : Still w w1) (x : Int) (k : Nat) (hx : x = ((p + k : Nat) : Int)) (hk : k ≤ (zs.drop p).length) (v : Value) :
    DGot h w v ((zs.drop p).drop k) false (.returned v) (w1.setCell ⟨h, 1, none⟩ (.int .i64 x)) := by
  obtain ⟨t3, hr, hp, hnc, hm⟩ := t
  have hc : Chg h w1 (w1.setCell ⟨h, 1, none⟩ (.int .i64 x)) := (Chg.refl h w1).setCell _ (.inl rfl) _
  have hl := hr.1
  rw [List.length_drop] at hk
  exact ⟨rfl, ((Chg.refl h w).still hs).trans hc, A, n, cap, p + k, zs, ⟨(t3.still hs).set1 x _ hx, (hr.still hs).chg3 hc (t3.still hs), by omega, hnc, hm⟩, by rw [List.drop_drop]⟩
theorem Doc.amiss {w w1 : World} {h : Nat} {A : Option Addr} {n cap p : Nat} {zs : List Int} {bad : Bool} (t : Doc w h A n cap p zs bad) (hs : Still w w1) (v : Value) :
    DGot h w v (zs.drop p) true (.returned v) (w1.setCell ⟨h, 2, none⟩ (.bool true)) := by
  obtain ⟨t3, hr, hp, hnc, hm⟩ := t
  have hc : Chg h w1 (w1.setCell ⟨h, 2, none⟩ (.bool true)) := (Chg.refl h w1).setCell _ (.inl rfl) _
  exact ⟨rfl, ((Chg.refl h w).still hs).trans hc, A, n, cap, p, zs, ⟨(t3.still hs).set2, (hr.still hs).chg3 hc (t3.still hs), hp, hnc, hm⟩, rfl⟩

set_option maxHeartbeats 800000 in
theorem dnum_ok (h : Nat) (rest : List Int) (w : World) (t : DocR w h rest false) (v : Nat) (r : List Int) (hc : cutNum rest = some (v, r)) (most : Int) (hm : (v : Int) ≤ most) :
    Calls Tryz.prog 53 #[.pointer (some ⟨h, 0, none⟩), .int .u64 most] w (DGot h w (.int .u64 (v : Int)) r false) := by
  obtain ⟨A, n, cap, p, zs, t, rfl⟩ := t
  obtain ⟨k, hn, hk0, hkl, rfl, _⟩ := cutNum_next _ (bytes_drop t.2.1.2.2.1 p) v r hc
  have HT := Lib.hid t
  have HN := Lib.hid (next_some h A n cap p zs w t v false k hn)
  have HKL := Lib.hid hkl
  have hpk : p + k ≤ 140737488351232 := by
    have := t.2.1.1
    have := t.2.2.2.2
    have := t.2.2.1
    rw [List.length_drop] at hkl
    omega
  clear t hc hn hkl
  have d1 : ((k : Int) == 0) = false := by simp; omega
  have d2 : decide (most < (v : Int)) = false := by simp; omega
  go_enter Tryz.func53, Tryz.ntmps53
  go_wp2_with fail
  refine HN.out.mono ?_
  rintro e w1 ⟨rfl, hst⟩
  have ht := HT.out.1.still hst
  have HST := Lib.hid hst
  obtain ⟨_, c1, _, f1, _⟩ := ht.cells
  clear ht hst
  go_wp2
  go_ret
  exact HT.out.moved HST.out _ k (by omega) HKL.out _

set_option maxHeartbeats 800000 in
theorem dnum_bad (h : Nat) (rest : List Int) (bad : Bool) (w : World) (t : DocR w h rest bad) (most : Int) (hc : bad = true ∨ cutNum rest = none ∨ ∃ v r, cutNum rest = some (v, r) ∧ most < (v : Int)) :
    Calls Tryz.prog 53 #[.pointer (some ⟨h, 0, none⟩), .int .u64 most] w (DGot h w (.int .u64 0) rest true) := by
  obtain ⟨A, n, cap, p, zs, t, rfl⟩ := t
  have hby := bytes_drop t.2.1.2.2.1 p
  have HT := Lib.hid t
  have cases3 : (bad = true ∨ nextS (zs.drop p) = none) ∨ (bad = false ∧ ∃ v k, nextS (zs.drop p) = some (v, true, k + 1)) ∨ (bad = false ∧ ∃ v k, nextS (zs.drop p) = some (v, false, k) ∧ 0 < k ∧ most < (v : Int)) := by
    cases bad with
    | true => exact .inl (.inl rfl)
    | false =>
      rcases hc with h | h | ⟨v, r, h, hv⟩
      · cases h
      · rcases cutNum_none _ hby h with h1 | h1
        · exact .inl (.inr h1)
        · exact .inr (.inl ⟨rfl, h1⟩)
      · obtain ⟨k, hn, hk0, _⟩ := cutNum_next _ hby v r h
        exact .inr (.inr ⟨rfl, v, k, hn, hk0, hv⟩)
  clear hc hby
  rcases cases3 with hn | ⟨rfl, v, k, hn⟩ | ⟨rfl, v, k, hn, hk0, hv⟩
  · have HN := Lib.hid (next_none h A n cap p zs bad w t hn)
    clear t hn
    go_enter Tryz.func53, Tryz.ntmps53
    go_wp2_with fail
    refine HN.out.mono ?_
    rintro e w1 ⟨rfl, hst⟩
    have ht := HT.out.1.still hst
    have HST := Lib.hid hst
    obtain ⟨_, _, c2, _, f2⟩ := ht.cells
    clear ht hst
    go_wp2
    go_ret
    exact HT.out.amiss HST.out _
  · have HN := Lib.hid (next_some h A n cap p zs w t v true (k + 1) hn)
    clear t hn
    have d1 : ((k : Int) + 1 == 0) = false := by simp; omega
    go_enter Tryz.func53, Tryz.ntmps53
    go_wp2_with fail
    refine HN.out.mono ?_
    rintro e w1 ⟨rfl, hst⟩
    have ht := HT.out.1.still hst
    have HST := Lib.hid hst
    obtain ⟨_, _, c2, _, f2⟩ := ht.cells
    clear ht hst
    go_wp2
    go_ret
    exact HT.out.amiss HST.out _
  · have HN := Lib.hid (next_some h A n cap p zs w t v false k hn)
    clear t hn
    have d1 : ((k : Int) == 0) = false := by simp; omega
    go_enter Tryz.func53, Tryz.ntmps53
    go_wp2_with fail
    refine HN.out.mono ?_
    rintro e w1 ⟨rfl, hst⟩
    have ht := HT.out.1.still hst
    have HST := Lib.hid hst
    obtain ⟨_, _, c2, _, f2⟩ := ht.cells
    clear ht hst
    go_wp2
    go_ret
    exact HT.out.amiss HST.out _

set_option maxHeartbeats 800000 in
theorem dwhole_any (h : Nat) (rest : List Int) (bad : Bool) (w : World) (t : DocR w h rest bad) : Calls Tryz.prog 54 #[.pointer (some ⟨h, 0, none⟩)] w fun e w' => e = .returned (.bool (wholeB rest bad)) ∧ ∃ k, w' = w.drewN k := by
  obtain ⟨A, n, cap, p, zs, t, rfl⟩ := t
  obtain ⟨t0, t1, t2, _, _⟩ := t.1.cells
  have hl := t.2.1.1
  have hpn := t.2.2.1
  have hm := t.2.2.2.2
  have HW := Lib.hid (show wholeB (zs.drop p) bad = (!bad && ((p : Int) == (n : Int))) by
    rw [wholeB]
    congr 1
    rw [Bool.eq_iff_iff]
    simp only [decide_eq_true_eq, beq_iff_eq, List.drop_eq_nil_iff]
    omega)
  clear t hl
  rw [HW.out]
  cases bad
  all_goals
    go_enter Tryz.func54, Tryz.ntmps54
    go_wp2_with fail
    go_quiet (fail)
    go_wp2
    go_ret
    exact ⟨rfl, _, rfl⟩
end Go.Proofs.YtejphnbhcabchaaGreat.Fld
