/-
  Layer 14, the program's own: slices.Backward over a slice of numbers, rooms. Conditions: the limits and the sales can be read, as many of both, the sales are numbers of seats.
-/
import Derived.Test.YtofbioefckdmbaaNeC
import Derived.RangeFuncNested
import Derived.RangeFuncBound
import Derived.RangeFuncCalls
import Derived.RangeFuncLeaves
import Derived.RangeFuncBox
import Derived.RangeFuncFrom
import Derived.Shelf.Abstract
import Derived.Shelf.RegionOpen
import Derived.OwnWalkIn
import Derived.TacticsInMore
import Derived.LoopNIn
import Derived.LoopIn
import Derived.Laws.MakeOwn
import Derived.Laws.EntriesVeiled
namespace Go.Proofs.Ytofbioefckdmbaa.Ne
open Go.RowKit Go.Shelf Go.Proofs.Ytofbioefckdmbaa.Fld
open Go.Proofs.Ytofbioefckdmbaa.Qu (Blk RdI RdI.below vI vI_at vI_len int_info alloc_below drew_add)
set_option linter.unusedVariables false
attribute [local go_sem] Oper.semAt_some

/-- a row of numbers as cells -/
def iRow (l : List Int) : Array Value := ⟨vI l⟩
theorem iRow_made (N : Nat) : madeCells #[.int .i64 0] N = iRow (List.replicate N 0) := by
  apply Array.ext'
  apply List.ext_getElem?
  intro i
  by_cases hi : i < N
  · simp [iRow, vI, madeCells, hi, Nat.mod_one]
  · simp [iRow, vI, madeCells, hi]
theorem iRow_size (l : List Int) : (iRow l).size = l.length := by simp [iRow, vI]
theorem iRow_at (l : List Int) (i : Nat) (h : i < l.length) : (iRow l)[i]? = some (.int .i64 (l.getD i 0)) := by simp [iRow, vI, h]
theorem iRow_set (l : List Int) (i : Nat) (v : Int) : (iRow l).setIfInBounds i (.int .i64 v) = iRow (l.set i v) := by
  apply Array.ext'
  simp [iRow, vI, List.map_set]
theorem run_mkI (n : Nat) (h : n ≤ 100000) (W : World) : (Instr.makeSlice 24 (.int .i64 (n : Int)) (.int .i64 (n : Int))).run Try.prog W = .ok (.slice (some ⟨W.heap.size, 0, none⟩) n n) (W.alloc (.cells (iRow (List.replicate n 0)) 3)) := by
  obtain ⟨i, hi, hz, hs, hb⟩ := int_info
  have := run_make (P := Try.prog) W 24 3 i _ Try.underlying24 hi hz .i64 .i64 (n : Int) (n : Int) (by omega) (Int.le_refl _) (by rw [hb]; omega) (by omega)
  rw [this, hs, Int.toNat_natCast, Nat.mul_one, ← iRow_made]
  rfl
/-- what the closure makes of the total and the row, class by class -/
def stp (L S : List Int) (s : Int × List Int) (x : Nat) : Int × List Int := (s.1 + S.getD x 0, s.2.set x (L.getD x 0 - (s.1 + S.getD x 0)))
def st (L S : List Int) (n : Nat) (pre : List (Fin n)) : Int × List Int := pre.foldl (fun s x => stp L S s x.1) (0, List.replicate n 0)
theorem st_snoc (L S : List Int) (n : Nat) (pre : List (Fin n)) (x : Fin n) : st L S n (pre ++ [x]) = stp L S (st L S n pre) x.1 := by unfold st; rw [List.foldl_append]; rfl
theorem st_len (L S : List Int) (n : Nat) (pre : List (Fin n)) : (st L S n pre).2.length = n := by
  have key : ∀ (pre : List (Fin n)) (s : Int × List Int), s.2.length = n → (pre.foldl (fun s x => stp L S s x.1) s).2.length = n := by
    intro pre
    induction pre with
    | nil => intro s h; exact h
    | cons x r ih => intro s h; exact ih _ (by simp [stp, h])
  exact key pre _ (by simp)
theorem st_bd {L S : List Int} {n : Nat} (hS : cntP S) (hn : S.length = n) (pre : List (Fin n)) : 0 ≤ (st L S n pre).1 ∧ (st L S n pre).1 ≤ 10000 * (pre.length : Int) := by
  have key : ∀ (pre : List (Fin n)) (s : Int × List Int), 0 ≤ s.1 → 0 ≤ (pre.foldl (fun s x => stp L S s x.1) s).1 ∧ (pre.foldl (fun s x => stp L S s x.1) s).1 ≤ s.1 + 10000 * (pre.length : Int) := by
    intro pre
    induction pre with
    | nil => intro s h; exact ⟨h, by simp⟩
    | cons x r ih =>
      intro s h
      have h1 := hS x.1 (by rw [hn]; exact x.2)
      have h2 := ih (stp L S s x.1) (by unfold stp; dsimp only; omega)
      refine ⟨h2.1, ?_⟩
      have h3 := h2.2
      unfold stp at h3
      dsimp only at h3
      rw [List.foldl_cons, List.length_cons]
      unfold stp
      push_cast
      omega
  have := key pre (0, List.replicate n 0) (Int.le_refl _)
  unfold st
  omega
/-- the classes from the last one down -/
def down (n : Nat) : List (Fin n) := (List.finRange n).reverse
theorem down_take (n k : Nat) (h : k < n) : (down n).take (n - k) = (down n).take (n - (k + 1)) ++ [⟨k, h⟩] := by
  unfold down
  rw [show n - k = (n - (k + 1)) + 1 by omega, List.take_add_one, List.getElem?_eq_getElem (by simp; omega)]
  congr 1
  simp
  omega
theorem down_len (n k : Nat) (h : k < n) : ((down n).take (n - (k + 1))).length < n := by
  simp [down]
  omega
def rmR (L S : List Int) (n k : Nat) : List Int := (List.range n).map fun i => if k ≤ i then rm L S i else 0
theorem st_down {L S : List Int} {n : Nat} (hn : S.length = n) : ∀ j k, k + j = n → st L S n ((down n).take (n - k)) = (frm S k, rmR L S n k)
  | 0, k, hk => by
    obtain rfl : k = n := by omega
    rw [Nat.sub_self, List.take_zero, frm_end S k (by omega)]
    unfold st rmR
    simp only [List.foldl_nil, Prod.mk.injEq, true_and]
    apply List.ext_getElem
    · simp
    · intro i h1 h2
      simp at h1 ⊢
      omega
  | j + 1, k, hk => by
    have ih := st_down (L := L) hn j (k + 1) (by omega)
    rw [down_take n k (by omega), st_snoc, ih]
    unfold stp
    dsimp only
    have e1 : frm S (k + 1) + S.getD k 0 = frm S k := by rw [frm_at S k (by omega)]; omega
    rw [e1]
    congr 1
    apply List.ext_getElem
    · simp [rmR]
    · intro i h1 h2
      simp only [rmR, List.length_map, List.length_range] at h2
      rw [List.getElem_set]
      simp only [rmR, List.getElem_map, List.getElem_range]
      by_cases h3 : k = i
      · subst h3
        rw [if_pos rfl, if_pos (Nat.le_refl _)]
        rfl
      · rw [if_neg h3]
        by_cases h4 : k + 1 ≤ i
        · rw [if_pos h4, if_pos (by omega)]
        · rw [if_neg h4, if_neg (by omega)]
/-- what each class's own limit leaves -/
def rmL (L S : List Int) : List Int := (List.range L.length).map (rm L S)
theorem rmL_len (L S : List Int) : (rmL L S).length = L.length := by simp [rmL]
theorem rmL_at (L S : List Int) (i : Nat) (h : i < L.length) : atI (rmL L S) i = rm L S i := by simp [atI, rmL, h]
theorem st_all {L S : List Int} {n : Nat} (hn : S.length = n) (hl : L.length = n) : (st L S n (down n)).2 = rmL L S := by
  have := st_down (L := L) hn n 0 (by omega)
  rw [Nat.sub_zero, List.take_of_length_le (by simp [down])] at this
  rw [this]
  unfold rmR rmL
  rw [hl]
  simp

def posV (k : Nat) : Value := .int .i64 ((k : Int) - 1)
/-- what a round keeps: what lay ahead of the call, and the iterator's own box -/
def Kp (n0 Bn : Nat) (W W' : World) : Prop := Below n0 W W' ∧ ∀ cs ty, Blk W Bn cs ty → Blk W' Bn cs ty
theorem kp_t {n0 Bn : Nat} {A B C : World} (h : Kp n0 Bn A B) (k : Kp n0 Bn B C) : Kp n0 Bn A C := ⟨h.1.trans k.1, fun cs ty q => k.2 cs ty (h.2 cs ty q)⟩
theorem kp_b {n0 Bn : Nat} {w : World} (hn : n0 ≤ w.heap.size) (W : World) (l : Nat) (o o' : Obj) (hl : w.heap.size ≤ l) (h : W.heap[l]? = some o) (hc : o.isCells = false) (hw : o.isWalk = false) : Kp n0 Bn W (W.putObj l o') :=
  ⟨belowK_b hn W l o o' hl h hc hw, fun cs ty q => by
    have hne : Bn ≠ l := by
      intro e
      subst e
      have q' : W.heap[Bn]? = some (.cells cs ty (0, 0)) := q
      rw [q'] at h
      cases h
      cases hc
    exact (World.putObj_heap_other hne).trans q⟩
set_option maxRecDepth 100000 in
set_option maxHeartbeats 1600000 in
theorem back_in (m : Nat) (hm : 1 ≤ m) (l Bn : Nat) (w0 : World) (A : Option Addr) (n cap : Nat) (ks : List Int) (hr : RdI w0 A n ks) (ty : TypeId) (J Jx : List (Fin n) → World → Prop)
    (hY : ∀ (pre : List (Fin n)) (x : Fin n) (W : World), J pre W → pre.length < n → YieldAt Fence.wide (m - 1) Try.prog l #[.int .i64 ((x.1 : Nat) : Int), .int .i64 (atI ks x.1)] W fun e W' =>
      (e = .returned (.bool true) ∧ J (pre ++ [x]) W' ∧ Kp w0.heap.size Bn W W') ∨ (e = .returned (.bool false) ∧ Jx (pre ++ [x]) W'))
    (W : World) (hB : Below w0.heap.size w0 W) (hBn : Blk W Bn #[.slice A n cap] ty) (h0 : J [] W) :
    CallsIn Fence.wide m Try.prog 40 #[.func (.yield l) #[] #[], .pointer (some ⟨Bn, 0, none⟩)] W fun e W' => (∃ v, e = .returned v) ∧ ((∃ xs, xs = down n ∧ J xs W') ∨ (∃ pre, (∃ j, pre = (down n).take j) ∧ Jx pre W')) := by
  have HR := Lib.hid hr
  have HBn := Lib.hid hBn
  have HY := Lib.hid hY
  have hmx := hr.2.1
  unfold maxLen at hmx
  have hc := hBn.cell 0 (.slice A n cap) rfl
  have HB := Lib.hid hB
  have HJ0 := Lib.hid h0
  clear hr hBn hY hB h0
  refine callsIn_of_wp Try.func40 rfl trivial ?_ rfl
  simp only [Try.ntmps40, List.size_toArray, List.length_cons, List.length_nil, Nat.reduceAdd, Nat.reduceSub, Array.replicate_succ, Array.replicate_zero, List.push_toArray, List.append_toArray, List.nil_append, List.cons_append]
  have hmn : -9223372036854775808 ≤ (n : Int) - 1 ∧ (n : Int) - 1 ≤ 9223372036854775807 := by omega
  gi_wp2
  gi_loopw [3] (fun i wr => ∃ k : Nat, k ≤ n ∧ i = posV k ∧ J ((down n).take (n - k)) wr ∧ Below w0.heap.size w0 wr ∧ Blk wr Bn #[.slice A n cap] ty) (fun i _ => (intOf i + 1).toNat)
  case atStart => exact ⟨n, Nat.le_refl _, by unfold posV; go_num, by rw [Nat.sub_self, List.take_zero]; exact HJ0.out, HB.out, HBn.out⟩
  case round =>
    obtain ⟨k, hk, rfl, hj, hb, hbn⟩ := hrel
    have HJ := Lib.hid hj
    have HBB := Lib.hid hb
    have HBN := Lib.hid hbn
    have hc2 := hbn.cell 0 (.slice A n cap) rfl
    clear hj hb hbn hc
    cases k with
    | zero =>
      have e0 : posV 0 = .int .i64 (-1) := rfl
      rw [e0]
      gi_wp2
      go_end0
      exact ⟨⟨_, rfl⟩, .inl ⟨_, by rw [Nat.sub_zero, List.take_of_length_le (by simp [down])], HJ.out⟩⟩
    | succ k =>
      have e0 : posV (k + 1) = .int .i64 (k : Int) := by unfold posV; simp
      rw [e0]
      obtain ⟨b, off, hA, hcell⟩ := HR.out.2.2 (by omega)
      subst hA
      have q0 := hcell k (by omega)
      have p0 := (HBB.out.cell (p := ⟨b, off + k, none⟩) (lt_of_cell q0)).trans q0
      obtain ⟨fn, tmps, assign, bodyc, hy, hRd⟩ := HY.out _ ⟨k, by omega⟩ wr HJ.out (down_len n k (by omega))
      have HT := Lib.hid (down_take n k (by omega))
      clear hcell q0 HY
      dsimp only at hy
      change wr.cell? ⟨b, off + k, none⟩ = some (.int .i64 (atI ks k)) at p0
      generalize atI ks k = x at *
      have j0 : (0 : Int) ≤ (k : Int) := by omega
      have j1 : (k : Int) < (n : Int) := by omega
      gi_wp2
      refine hRd.mono ?_
      rintro e W3 (⟨rfl, hJ3, hk3⟩ | ⟨rfl, hJx3⟩)
      · gi_wp2
        go_roundw
        case rel => exact ⟨k, by omega, by unfold posV; go_num, by rw [HT.out]; exact hJ3, HBB.out.trans hk3.1, hk3.2 _ _ HBN.out⟩
        case measure => simp [intOf]
      · gi_wp2
        refine bodyPost_ret (results_none rfl _ _ _) rfl ?_
        exact ⟨⟨_, rfl⟩, .inr ⟨_, ⟨n - k, HT.out.symm⟩, hJx3⟩⟩
theorem back_stops (m : Nat) (hm : 1 ≤ m) (Bn : Nat) (w0 w1 : World) (h01 : Below w0.heap.size w0 w1) (A : Option Addr) (n cap : Nat) (ks : List Int) (hr : RdI w0 A n ks) (ty : TypeId) (hBn : Blk w1 Bn #[.slice A n cap] ty) :
    SeqStopsK Fence.wide m Try.prog 40 #[.pointer (some ⟨Bn, 0, none⟩)] (fun x : Fin n => #[.int .i64 ((x.1 : Nat) : Int), .int .i64 (atI ks x.1)]) (Kp w0.heap.size Bn) (fun xs => xs = down n) (fun pre => ∃ j, pre = (down n).take j) n w1 := fun l J Jx W hW hJ hJx hY h0 =>
  back_in m hm l Bn w0 A n cap ks hr ty J Jx hY W (h01.trans (hW.mono h01.size)) (hBn.below hW) h0
theorem back_call (m : Nat) (A : Option Addr) (n cap : Nat) (w : World) :
    CallsIn Fence.wide m Try.prog 35 #[.slice A n cap] w fun e w' => e = .returned (.func (.func 40) #[] #[.pointer (some ⟨w.heap.size, 0, none⟩)]) ∧ w' = w.alloc (.cells #[.slice A n cap] 24) := by
  refine callsIn_of_wp Try.func35 rfl trivial ?_ rfl
  simp only [Try.ntmps35, List.size_toArray, List.length_cons, List.length_nil, Nat.reduceAdd, Nat.reduceSub, Array.replicate_succ, Array.replicate_zero, List.push_toArray, List.append_toArray, List.nil_append, List.cons_append]
  gi_wp2
  go_ret
  exact ⟨rfl, rfl⟩
/-- cells of a block that is no block of a loop's are kept -/
theorem blk_own {β : Type} (B : Nat) (cs : Array Value) (ty : TypeId) : Own (fun (_ : β) W => Blk W B cs ty) := fun s X Y row hs hg hrow => by
  have hlt : B < X.heap.size := Qu.Blk.lt hs
  refine (hg.block B hlt (fun e => ?_)).trans hs
  obtain ⟨o, ho, hc⟩ := hrow B e.symm
  rw [show X.heap[B]? = _ from hs] at ho
  cases ho
  cases hc
end Go.Proofs.Ytofbioefckdmbaa.Ne
