/-
  Layer 12: slices.Backward over the turns of a group, groupAt and group: the last turn's group, or the snapshot's. Conditions: the turns can be read; the last one's Index is not above the place.
-/
import Derived.Test.YtjadfpcipicckaaGreatJRlgMem
import Derived.RangeFuncNested
import Derived.RangeFuncBound
import Derived.RangeFuncCalls
import Derived.RangeFuncLeaves
import Derived.RangeFuncBox
import Derived.Shelf.Abstract
import Derived.Shelf.RegionOpen
import Derived.OwnWalkIn
import Derived.TacticsInMore
import Derived.LoopNIn
import Derived.LoopIn
namespace Go.Proofs.YtjadfpcipicckaaGreat.Rf
open Go.RowKit Go.Shelf Go.Proofs.YtjadfpcipicckaaGreat.Fld
open Go.Proofs.YtjadfpcipicckaaGreat.Rg (Blk)
set_option linter.unusedVariables false
attribute [local go_sem] Oper.semAt_some

/-- a turn: an Index, and the slices of a group -/
structure TA where
  idx : Int
  VA : Option Addr
  vn : Nat
  vc : Nat
  LA : Option Addr
  ln : Nat
  lc : Nat
def TA.cs (t : TA) : Array Value := #[.int .i64 t.idx, .slice t.VA t.vn t.vc, .slice t.LA t.ln t.lc]
def TA.grp (t : TA) : Array Value := #[.slice t.VA t.vn t.vc, .slice t.LA t.ln t.lc]
def ta0 : TA := ⟨0, none, 0, 0, none, 0, 0⟩
/-- a slice of turns that can be read -/
def RdTn (w : World) (A : Option Addr) (n : Nat) (ts : List TA) : Prop :=
  ts.length = n ∧ n ≤ maxLen ∧ (0 < n → ∃ b off, A = some ⟨b, off, none⟩ ∧ ∀ k, k < n → w.cell? ⟨b, off + k * 3, none⟩ = some (.int .i64 (ts.getD k ta0).idx) ∧ w.cell? ⟨b, off + k * 3 + 1, none⟩ = some (.slice (ts.getD k ta0).VA (ts.getD k ta0).vn (ts.getD k ta0).vc) ∧ w.cell? ⟨b, off + k * 3 + 2, none⟩ = some (.slice (ts.getD k ta0).LA (ts.getD k ta0).ln (ts.getD k ta0).lc))
theorem RdTn.nil (w : World) (A : Option Addr) : RdTn w A 0 [] := ⟨rfl, by unfold maxLen; omega, fun h => by omega⟩
theorem RdTn.below {w w' : World} {A : Option Addr} {n : Nat} {ts : List TA} (h : RdTn w A n ts) (hb : Below w.heap.size w w') : RdTn w' A n ts := by
  obtain ⟨h1, h2, h3⟩ := h
  refine ⟨h1, h2, fun hn => ?_⟩
  obtain ⟨b, off, rfl, hc⟩ := h3 hn
  refine ⟨b, off, rfl, fun k hk => ?_⟩
  obtain ⟨q0, q1, q2⟩ := hc k hk
  exact ⟨(hb.cell (p := ⟨b, _, none⟩) (lt_of_cell q0)).trans q0, (hb.cell (p := ⟨b, _, none⟩) (lt_of_cell q1)).trans q1, (hb.cell (p := ⟨b, _, none⟩) (lt_of_cell q2)).trans q2⟩
/-- the places from the last one down -/
def down (n : Nat) : List Nat := (List.range n).reverse
theorem down_take (n k : Nat) (h : k < n) : (down n).take (n - k) = (down n).take (n - (k + 1)) ++ [k] := by
  unfold down
  rw [show n - k = (n - (k + 1)) + 1 by omega, List.take_add_one, List.getElem?_eq_getElem (by simp; omega)]
  simp
  omega
theorem down_len (n k : Nat) (h : k < n) : ((down n).take (n - (k + 1))).length < n := by
  simp [down]
  omega
def posV (k : Nat) : Value := .int .i64 ((k : Int) - 1)
theorem below_ge {w0 w : World} (h : Below w0.heap.size w0 w) : w0.heap.size ≤ w.heap.size := h.size

set_option maxRecDepth 100000 in
set_option maxHeartbeats 1600000 in
theorem back_in (m : Nat) (hm : 1 ≤ m) (l Bn : Nat) (w0 : World) (A : Option Addr) (n cap : Nat) (ts : List TA) (hr : RdTn w0 A n ts) (hBn : w0.cell? ⟨Bn, 0, none⟩ = some (.slice A n cap)) (J Jx : List Nat → World → Prop)
    (hY : ∀ (pre : List Nat) (x : Nat) (W : World), J pre W → pre.length < n → YieldAt Fence.wide (m - 1) Tryz.prog l #[.int .i64 (x : Int), .agg (ts.getD x ta0).cs] W fun e W' =>
      (e = .returned (.bool true) ∧ J (pre ++ [x]) W' ∧ Below w0.heap.size W W') ∨ (e = .returned (.bool false) ∧ Jx (pre ++ [x]) W'))
    (W : World) (hB : Below w0.heap.size w0 W) (h0 : J [] W) :
    CallsIn Fence.wide m Tryz.prog 119 #[.func (.yield l) #[] #[], .pointer (some ⟨Bn, 0, none⟩)] W fun e W' => (∃ v, e = .returned v) ∧ ((∃ xs, xs = down n ∧ J xs W') ∨ (∃ pre, (∃ j, pre = (down n).take j) ∧ Jx pre W')) := by
  have HR := Lib.hid hr
  have HBn := Lib.hid hBn
  have HY := Lib.hid hY
  have hmx := hr.2.1
  unfold maxLen at hmx
  have hc := (hB.cell (p := ⟨Bn, 0, none⟩) (lt_of_cell hBn)).trans hBn
  have HB := Lib.hid hB
  have HJ0 := Lib.hid h0
  clear hr hBn hY hB h0
  refine callsIn_of_wp Tryz.func119 rfl trivial ?_ rfl
  simp only [Tryz.ntmps119, List.size_toArray, List.length_cons, List.length_nil, Nat.reduceAdd, Nat.reduceSub, Array.replicate_succ, Array.replicate_zero, List.push_toArray, List.append_toArray, List.nil_append, List.cons_append]
  have hmn : -9223372036854775808 ≤ (n : Int) - 1 ∧ (n : Int) - 1 ≤ 9223372036854775807 := by omega
  gi_wp2
  gi_loopw [3] (fun i wr => ∃ k : Nat, k ≤ n ∧ i = posV k ∧ J ((down n).take (n - k)) wr ∧ Below w0.heap.size w0 wr) (fun i _ => (intOf i + 1).toNat)
  case atStart => exact ⟨n, Nat.le_refl _, by unfold posV; go_num, by rw [Nat.sub_self, List.take_zero]; exact HJ0.out, HB.out⟩
  case round =>
    obtain ⟨k, hk, rfl, hj, hb⟩ := hrel
    have HJ := Lib.hid hj
    have HBB := Lib.hid hb
    have hc2 := (hb.cell (p := ⟨Bn, 0, none⟩) (lt_of_cell HBn.out)).trans HBn.out
    clear hj hb hc
    cases k with
    | zero =>
      have e0 : posV 0 = .int .i64 (-1) := rfl
      rw [e0]
      gi_wp2
      go_end0
      exact ⟨⟨_, rfl⟩, .inl ⟨_, by rw [Nat.sub_zero, List.take_of_length_le (by simp [down])], HJ.out⟩⟩
    | succ k =>
      have e0 : posV (k + 1) = .int .i64 (k : Int) := by unfold posV; simp
      rw [e0]
      obtain ⟨b, off, hA, hcell⟩ := HR.out.2.2 (by omega)
      subst hA
      obtain ⟨q0, q1, q2⟩ := hcell k (by omega)
      have p0 := (HBB.out.cell (p := ⟨b, off + k * 3, none⟩) (lt_of_cell q0)).trans q0
      have p1 := (HBB.out.cell (p := ⟨b, off + k * 3 + 1, none⟩) (lt_of_cell q1)).trans q1
      have p2 := (HBB.out.cell (p := ⟨b, off + k * 3 + 2, none⟩) (lt_of_cell q2)).trans q2
      obtain ⟨fn, tmps, assign, bodyc, hy, hRd⟩ := HY.out _ k wr HJ.out (down_len n k (by omega))
      have HT := Lib.hid (down_take n k (by omega))
      unfold TA.cs at hy
      clear hcell q0 q1 q2 HY
      generalize ts.getD k ta0 = x at *
      obtain ⟨xi, xV, xvn, xvc, xL, xln, xlc⟩ := x
      dsimp only at hy p0 p1 p2
      have j0 : (0 : Int) ≤ (k : Int) := by omega
      have j1 : (k : Int) < (n : Int) := by omega
      gi_wp2
      refine hRd.mono ?_
      rintro e W3 (⟨rfl, hJ3, hk3⟩ | ⟨rfl, hJx3⟩)
      · gi_wp2
        go_roundw
        case rel => exact ⟨k, by omega, by unfold posV; go_num, by rw [HT.out]; exact hJ3, HBB.out.trans hk3⟩
        case measure => simp [intOf]
      · gi_wp2
        refine bodyPost_ret (results_none rfl _ _ _) rfl ?_
        exact ⟨⟨_, rfl⟩, .inr ⟨_, ⟨n - k, HT.out.symm⟩, hJx3⟩⟩
theorem back_stops (m : Nat) (hm : 1 ≤ m) (Bn : Nat) (w0 : World) (A : Option Addr) (n cap : Nat) (ts : List TA) (hr : RdTn w0 A n ts) (hBn : w0.cell? ⟨Bn, 0, none⟩ = some (.slice A n cap)) :
    SeqStopsK Fence.wide m Tryz.prog 119 #[.pointer (some ⟨Bn, 0, none⟩)] (fun x : Nat => #[.int .i64 (x : Int), .agg (ts.getD x ta0).cs]) (Below w0.heap.size) (fun xs => xs = down n) (fun pre => ∃ j, pre = (down n).take j) n w0 := fun l J Jx W hW hJ hJx hY h0 =>
  back_in m hm l Bn w0 A n cap ts hr hBn J Jx hY W hW h0
theorem back_call (m : Nat) (A : Option Addr) (n cap : Nat) (w : World) :
    CallsIn Fence.wide m Tryz.prog 96 #[.slice A n cap] w fun e w' => e = .returned (.func (.func 119) #[] #[.pointer (some ⟨w.heap.size, 0, none⟩)]) ∧ w' = w.alloc (.cells #[.slice A n cap] 54) := by
  refine callsIn_of_wp Tryz.func96 rfl trivial ?_ rfl
  simp only [Tryz.ntmps96, List.size_toArray, List.length_cons, List.length_nil, Nat.reduceAdd, Nat.reduceSub, Array.replicate_succ, Array.replicate_zero, List.push_toArray, List.append_toArray, List.nil_append, List.cons_append]
  gi_wp2
  go_ret
  exact ⟨rfl, rfl⟩
/-- cells of a block that is no block of a loop's are kept -/
theorem blk_own {β : Type} (B : Nat) (cs : Array Value) (ty : TypeId) : Own (fun (_ : β) W => Blk W B cs ty) := fun s X Y row hs hg hrow => by
  have hlt : B < X.heap.size := Rg.Blk.lt hs
  refine (hg.block B hlt (fun e => ?_)).trans hs
  obtain ⟨o, ho, hc⟩ := hrow B e.symm
  rw [show X.heap[B]? = _ from hs] at ho
  cases ho
  cases hc
theorem boxed_blk {W : World} {B : Nat} {t : TypeId} {v : Value} (h : Boxed W B t v) : Blk W B #[v] t := h
/-- the last turn's group, or the snapshot's -/
def lastG (ts : List TA) (sg : Array Value) : Array Value := match ts.getLast? with | some t => t.grp | none => sg
def LastOk (ts : List TA) (i : Int) : Prop := ∀ t, ts.getLast? = some t → t.idx ≤ i
theorem down_succ (n : Nat) : down (n + 1) = n :: down n := by simp [down, List.range_succ]
theorem stop_last {n j x : Nat} {pre0 : List Nat} (h : pre0 ++ [x] = (down n).take j) : 0 < n ∧ (pre0 = [] ∧ x = n - 1 ∨ (n - 1) ∈ pre0) := by
  cases n with
  | zero => simp [down] at h
  | succ n =>
    refine ⟨by omega, ?_⟩
    rw [down_succ] at h
    cases j with
    | zero => simp at h
    | succ j =>
      rw [List.take_succ_cons] at h
      cases pre0 with
      | nil => simp at h; left; exact ⟨rfl, by omega⟩
      | cons a r => simp at h; right; simp [h.1]
theorem last_at {w : World} {A : Option Addr} {n : Nat} {ts : List TA} (h : RdTn w A n ts) (hn : 0 < n) : ts.getLast? = some (ts.getD (n - 1) ta0) := by
  have hl := h.1
  rw [List.getLast?_eq_getElem?, hl, List.getElem?_eq_getElem (by omega), List.getD_eq_getElem?_getD, List.getElem?_eq_getElem (by omega)]
  rfl
theorem last_no {w : World} {A : Option Addr} {ts : List TA} (h : RdTn w A 0 ts) : ts = [] := List.eq_nil_of_length_eq_zero h.1
set_option maxRecDepth 100000 in
set_option maxHeartbeats 1600000 in
theorem groupAt_in (nb : Nat) (i : Int) (A : Option Addr) (n cap : Nat) (ts : List TA) (SV : Option Addr) (sn svc : Nat) (SL : Option Addr) (ln slc : Nat) (w : World) (hr : RdTn w A n ts)
    (c6 : w.cell? ⟨nb, 6, none⟩ = some (.slice SV sn svc)) (c7 : w.cell? ⟨nb, 7, none⟩ = some (.slice SL ln slc)) (c9 : w.cell? ⟨nb, 9, none⟩ = some (.slice A n cap)) (hi : LastOk ts i) :
    CallsIn Fence.wide 6 Tryz.prog 60 #[.pointer (some ⟨nb, 0, none⟩), .int .i64 i] w fun e w' => e = .returned (.agg (lastG ts #[.slice SV sn svc, .slice SL ln slc])) ∧ Below w.heap.size w w' := by
  refine callsIn_of_wp_marks Tryz.func60 rfl trivial ?_ rfl
  simp only [Tryz.ntmps60, List.size_toArray, List.length_cons, List.length_nil, Nat.reduceAdd, Nat.reduceSub, Array.replicate_succ, Array.replicate_zero, List.push_toArray, List.append_toArray, List.nil_append, List.cons_append]
  have HR := Lib.hid hr
  have HI := Lib.hid hi
  have hb0 : Below w.heap.size w ((w.alloc (.cells #[.int .i64 i] 3)).alloc (.cells #[.slice none 0 0, .slice none 0 0] 26)) := ((Below.refl _ w).alloc (Nat.le_refl _) _).alloc (by simp) _
  have hb1 := hb0.alloc hb0.size (.cells #[.slice A n cap] 54)
  have d6 := (hb0.cell (p := ⟨nb, 6, none⟩) (lt_of_cell c6)).trans c6
  have d7 := (hb0.cell (p := ⟨nb, 7, none⟩) (lt_of_cell c7)).trans c7
  have d9 := (hb0.cell (p := ⟨nb, 9, none⟩) (lt_of_cell c9)).trans c9
  have bI := Boxed.new w 3 (.int .i64 i)
  have kG := Rg.Blk.new (w.alloc (.cells #[.int .i64 i] 3)) #[.slice none 0 0, .slice none 0 0] 26
  have bN := Boxed.new ((w.alloc (.cells #[.int .i64 i] 3)).alloc (.cells #[.slice none 0 0, .slice none 0 0] 26)) 54 (.slice A n cap)
  rw [World.size_alloc] at kG
  rw [World.size_alloc, World.size_alloc] at bN
  have HBI := Lib.hid ((bI.alloc (.cells #[.slice none 0 0, .slice none 0 0] 26)).alloc (.cells #[.slice A n cap] 54))
  have HKG := Lib.hid (kG.below (Rg.alloc_below' _ (.cells #[.slice A n cap] 54)))
  have HBN := Lib.hid bN
  have HB1 := Lib.hid hb1
  have hs1 : (((w.alloc (.cells #[.int .i64 i] 3)).alloc (.cells #[.slice none 0 0, .slice none 0 0] 26)).alloc (.cells #[.slice A n cap] 54)).heap.size = w.heap.size + 3 := by simp
  have HS1 := Lib.hid hs1
  clear hb0 bI kG bN hr hi hs1 hb1
  gi_wp2_with (refine ⟨trivial, ?_⟩; gi_at_call 96; refine (back_call _ A n cap _).mono ?_; rintro e w' ⟨rfl, rfl⟩)
  have h1 : 1 ≤ 6 := by omega
  obtain ⟨W0, hW0⟩ : ∃ W0, ((w.alloc (.cells #[.int .i64 i] 3)).alloc (.cells #[.slice none 0 0, .slice none 0 0] 26)).alloc (.cells #[.slice A n cap] 54) = W0 := ⟨_, rfl⟩
  rw [hW0] at HBI HKG HBN HB1 HS1 ⊢
  have e6 := (HB1.out.cell (p := ⟨nb, 6, none⟩) (lt_of_cell c6)).trans c6
  have e7 := (HB1.out.cell (p := ⟨nb, 7, none⟩) (lt_of_cell c7)).trans c7
  have E6 := Lib.hid e6
  have E7 := Lib.hid e7
  have hsz := HS1.out
  clear d6 d7 d9 hW0 e6 e7
  refine wpIn_rangeFunc_ownH rfl h1 (gf := 119) (lb := #[.pointer (some ⟨w.heap.size + 1 + 1, 0, none⟩)]) rfl trivial (enters_of Tryz.func119 (by kernel_rfl) rfl)
    (back_stops 5 (by omega) (w.heap.size + 1 + 1) W0 A n cap ts (HR.out.below HB1.out) HBN.out.cell) belowK_t (belowK_b (Nat.le_refl _)) (Below.refl _ _) (fun _ => rfl)
    (fun pre W => ((Boxed W w.heap.size 3 (.int .i64 i) ∧ Blk W (w.heap.size + 1) #[.slice none 0 0, .slice none 0 0] 26) ∧ ∀ y ∈ pre, i < (ts.getD y ta0).idx) ∧ Below W0.heap.size W0 W)
    (fun c pre W => (c = .ret ∧ ∃ x pre0, pre = pre0 ++ [x] ∧ (∀ y ∈ pre0, i < (ts.getD y ta0).idx) ∧ Blk W (w.heap.size + 1) (ts.getD x ta0).grp 26) ∧ Below w.heap.size w W)
    (fun s X Y row hs hg hr => ⟨⟨⟨boxed_own _ _ (fun (_ : Unit) => Value.int .i64 i) () X Y row hs.1.1.1 hg (fun r e => (hr r e).2), blk_own (β := Unit) _ _ _ () X Y row hs.1.1.2 hg (fun r e => (hr r e).2)⟩, hs.1.2⟩, ownFrom_below (β := Unit) (n₀ := W0.heap.size) (B := W0.heap.size) (Nat.le_refl _) (Nat.le_refl _) () X Y row hs.2 hg hr⟩)
    (fun c s X Y row hs hg hr => ⟨⟨hs.1.1, by obtain ⟨x, pre0, q1, q2, q3⟩ := hs.1.2; exact ⟨x, pre0, q1, q2, blk_own (β := Unit) _ _ _ () X Y row q3 hg (fun r e => (hr r e).2)⟩⟩, ownFrom_below (β := Unit) (n₀ := w.heap.size) (B := W0.heap.size) (Nat.le_refl _) (by omega) () X Y row hs.2 hg hr⟩)
    ⟨⟨⟨HBI.out, HKG.out⟩, fun y hy => by cases hy⟩, Below.refl _ _⟩
    (fun x a' W => ∃ Bx, w.heap.size + 2 < Bx ∧ Blk W Bx (ts.getD x ta0).cs 103 ∧ a' = { tmps := #[.pointer (some ⟨nb, 0, none⟩), .int .i64 i, undef, .pointer (some ⟨w.heap.size, 0, none⟩), .pointer (some ⟨w.heap.size + 1, 0, none⟩), undef, .pointer (some ⟨Bx, 0, none⟩), .pointer (some ⟨nb, 0, none⟩), .pointer (some ⟨nb, 0, none⟩), .pointer (some ⟨nb, 9, none⟩), .slice A n cap, .func (.func 119) #[] #[.pointer (some ⟨w.heap.size + 1 + 1, 0, none⟩)], .int .i64 (x : Int), .agg (ts.getD x ta0).cs, undef, undef, undef, undef, undef, undef, undef, undef, undef, undef, undef], defers := [] })
    (fun x a' _ X Y row hs hg hr => by obtain ⟨Bx, q1, q2, q3⟩ := hs; exact ⟨Bx, q1, blk_own (β := Unit) _ _ _ () X Y row q2 hg (fun r e => (hr r e).2), q3⟩)
    ?assign ?body ?done ?stop
  case assign =>
    rintro l pre x W K ⟨⟨⟨bI1, kG1⟩, hgt⟩, hB1⟩ hK
    have HK2 := Lib.hid (Rg.Blk.new W (ts.getD x ta0).cs 103)
    have hs2 : w.heap.size + 3 ≤ W.heap.size := by have := hB1.size; have := HS1.out; omega
    unfold TA.cs at HK2 hK ⊢
    generalize ts.getD x ta0 = y at *
    gi_wp2
    exact hK _ _ ((KeepsOthers.alloc _ _).from _) ((Below.refl _ W).alloc hB1.size _) ⟨⟨⟨bI1.alloc _, Rg.Blk.past kG1 _⟩, hgt⟩, hB1.alloc hB1.size _⟩ ⟨W.heap.size, by have := HS1.out; omega, HK2.out, rfl⟩
  case body =>
    rintro l pre x a' W hl ⟨r, hr⟩ ⟨⟨⟨bI1, kG1⟩, hgt⟩, hB1⟩ ⟨Bx, hBx, kX, rfl⟩ hlt
    have cI := bI1.cell
    have x0 := kX.cell 0 (.int .i64 (ts.getD x ta0).idx) rfl
    have x1 := kX.cell 1 (.slice (ts.getD x ta0).VA (ts.getD x ta0).vn (ts.getD x ta0).vc) rfl
    have x2 := kX.cell 2 (.slice (ts.getD x ta0).LA (ts.getD x ta0).ln (ts.getD x ta0).lc) rfl
    have f0 := kG1.free 0
    have f1 := kG1.free 1
    have g0 := kG1.cell 0 _ rfl
    have g1 := kG1.cell 1 _ rfl
    have HKG1 := Lib.hid kG1
    have HBI1 := Lib.hid bI1
    have HGT := Lib.hid hgt
    have HB2 := Lib.hid hB1
    clear kG1 kX bI1 hgt hB1
    by_cases hle : (ts.getD x ta0).idx ≤ i
    · obtain ⟨y, hy⟩ : ∃ y, ts.getD x ta0 = y := ⟨_, rfl⟩
      have HY := Lib.hid hy
      rw [hy] at hle x0 x1 x2 ⊢
      clear hy
      unfold TA.cs
      gi_wp2
      refine ⟨((KeepsOthers.setCell _ _ _).trans (KeepsOthers.setCell _ _ _)).from _, ⟨rfl, x, pre, rfl, HGT.out, ?_⟩, ((HB1.out.trans (HB2.out.mono HB1.out.size)).setCell (p := ⟨w.heap.size + 1, 0, none⟩) (by simp) _).setCell (p := ⟨w.heap.size + 1, 1, none⟩) (by simp) _⟩
      rw [HY.out]
      exact Rg.Blk.set (Rg.Blk.set HKG1.out 0 _ (by show 0 < 2; omega)) 1 _ (by show 1 < 2; omega)
    · obtain ⟨y, hy⟩ : ∃ y, ts.getD x ta0 = y := ⟨_, rfl⟩
      have HG2 := Lib.hid (show ∀ z ∈ pre ++ [x], i < (ts.getD z ta0).idx by
        intro z hz
        rcases List.mem_append.1 hz with hz | hz
        · exact HGT.out z hz
        · simp at hz; subst hz; omega)
      rw [hy] at hle x0 x1 x2 ⊢
      clear hy
      unfold TA.cs
      gi_wp2
      exact ⟨KeepsFrom.refl _ _, Below.refl _ _, ⟨⟨HBI1.out, HKG1.out⟩, HG2.out⟩, HB2.out.mono (by omega)⟩
  case done =>
    rintro D xs W hD rfl ⟨⟨⟨bI1, kG1⟩, hgt⟩, hB1⟩ hK
    have hn0 : n = 0 := by
      rcases Nat.eq_zero_or_pos n with h0 | h0
      · exact h0
      · have h2 := HI.out _ (last_at HR.out h0)
        have h3 := hgt (n - 1) (by obtain ⟨m, rfl⟩ : ∃ m, n = m + 1 := ⟨n - 1, by omega⟩; rw [down_succ]; simp)
        omega
    subst hn0
    obtain rfl := last_no HR.out
    have e6 := (hB1.cell (p := ⟨nb, 6, none⟩) (lt_of_cell E6.out)).trans E6.out
    have e7 := (hB1.cell (p := ⟨nb, 7, none⟩) (lt_of_cell E7.out)).trans E7.out
    have f0 := kG1.free 0
    have f1 := kG1.free 1
    have g0 := kG1.cell 0 _ rfl
    have g1 := kG1.cell 1 _ rfl
    have HKG1 := Lib.hid kG1
    have HB2 := Lib.hid hB1
    have HKK := Lib.hid hK
    clear kG1 bI1 hgt hB1 hK
    gi_wp2
    have hK' := ((KeepsOthers.setCell W ⟨w.heap.size + 1, 0, none⟩ (.slice SV sn svc)).trans (KeepsOthers.setCell _ ⟨w.heap.size + 1, 1, none⟩ (.slice SL ln slc))).same D _ HKK.out rfl
    refine ⟨by simp, .inl ⟨_, _, rfl, run_takeDeferred hK', ?_⟩⟩
    have k2 := Rg.Blk.set (Rg.Blk.set HKG1.out 0 (.slice SV sn svc) (by show 0 < 2; omega)) 1 (.slice SL ln slc) (by show 1 < 2; omega)
    have k3 := blk_own (β := Unit) _ _ _ () _ _ _ k2 (grownBy_putObj' _ D (.deferred none)) (fun r e => by cases e; exact ⟨_, hK', rfl⟩)
    refine ⟨_, results_cell_row rfl _ _ (w.heap.size + 1) _ _ (0, 0) _ rfl k3 Tryz.underlying26 rfl (by kernel_rfl), rfl, ?_⟩
    exact (((HB1.out.trans (HB2.out.mono HB1.out.size)).setCell (p := ⟨w.heap.size + 1, 0, none⟩) (by simp) _).setCell (p := ⟨w.heap.size + 1, 1, none⟩) (by simp) _).trans (belowK_b (w := w) (Nat.le_refl _) _ D _ _ (by omega) hK' rfl rfl)
  case stop =>
    rintro D c pre W hD ⟨j, hj⟩ ⟨⟨rfl, x, pre0, hp, hgt, kG1⟩, hB1⟩ hK
    subst hp
    obtain ⟨hn, hx | hx⟩ := stop_last hj
    · obtain ⟨rfl, rfl⟩ := hx
      gi_wp2
      refine ⟨by simp, .inl ⟨_, _, rfl, run_takeDeferred hK, ?_⟩⟩
      have k3 := blk_own (β := Unit) _ _ _ () _ _ _ kG1 (grownBy_putObj' _ D (.deferred none)) (fun r e => by cases e; exact ⟨_, hK, rfl⟩)
      have hlg : lastG ts #[.slice SV sn svc, .slice SL ln slc] = (ts.getD (n - 1) ta0).grp := by unfold lastG; rw [last_at HR.out hn]
      refine ⟨_, results_cell_row rfl _ _ (w.heap.size + 1) _ _ (0, 0) _ rfl k3 Tryz.underlying26 rfl (by kernel_rfl), by rw [hlg], ?_⟩
      exact hB1.trans (belowK_b (w := w) (Nat.le_refl _) _ D _ _ (by omega) hK rfl rfl)
    · have h2 := HI.out _ (last_at HR.out hn)
      have h3 := hgt _ hx
      omega
end Go.Proofs.YtjadfpcipicckaaGreat.Rf
