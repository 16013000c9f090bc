/-
  Several texts in one: Layer 9 in memory: slices of whole numbers that can be read, rows of a call's own, blocks. Conditions: as each theorem states. Layer 9, in the program: slices.Contains of numbers, rising, count, Right, Need. Conditions: the lists can be read. Layer 9, most of the voters, in the program: Wins. Conditions: the lists can be read.
-/
import Derived.Test.YtjadfpcipicckaaGreatJFieldBase
import Derived.Deep.QuietTactic
import Derived.BigQuiet
import Derived.Laws.AppendOwnNone
import Derived.Deep.RegionHeld3
import Derived.Deep.RegionWith
namespace Go.Proofs.YtjadfpcipicckaaGreat.Qu
open Go.RowKit Go.Proofs.YtjadfpcipicckaaGreat.Fld
set_option linter.unusedVariables false

theorem drew_add (w : World) (a b : Nat) : (w.drewN a).drewN b = w.drewN (a + b) := by simp [World.drewN, Nat.add_assoc]
theorem below_dr (w : World) (k : Nat) : Below w.heap.size w (w.drewN k) := ⟨rfl, rfl, rfl, Nat.le_refl _, fun _ _ => rfl⟩
theorem alloc_below (w : World) (o : Obj) : Below w.heap.size w (w.alloc o) := (Below.refl _ _).alloc (Nat.le_refl _) o
/-- a block's cells -/
def Blk (w : World) (B : Nat) (cs : Array Value) (ty : TypeId) : Prop := w.heap[B]? = some (.cells cs ty (0, 0))
theorem Blk.cell {w : World} {B : Nat} {cs : Array Value} {ty : TypeId} (h : Blk w B cs ty) (i : Nat) (v : Value) (hv : cs[i]? = some v) : w.cell? ⟨B, i, none⟩ = some v := by rw [cell_of_row w B i _ _ (0, 0) h]; exact hv
theorem Blk.free {w : World} {B : Nat} {cs : Array Value} {ty : TypeId} (h : Blk w B cs ty) (i : Nat) : w.frozen? ⟨B, i, none⟩ = false := frozen_of_row w B i _ _ h
theorem Blk.lt {w : World} {B : Nat} {cs : Array Value} {ty : TypeId} (h : Blk w B cs ty) : B < w.heap.size := by
  rcases Nat.lt_or_ge B w.heap.size with h' | h'
  · exact h'
  · unfold Blk at h; rw [Array.getElem?_eq_none h'] at h; cases h
theorem Blk.below {w w' : World} {B : Nat} {cs : Array Value} {ty : TypeId} (h : Blk w B cs ty) (hb : Below w.heap.size w w') : Blk w' B cs ty := (hb.block B h.lt).trans h
theorem Blk.new (w : World) (cs : Array Value) (ty : TypeId) : Blk (w.alloc (.cells cs ty)) w.heap.size cs ty := heap_alloc_new w _
theorem Blk.past {w : World} {B : Nat} {cs : Array Value} {ty : TypeId} (h : Blk w B cs ty) (o : Obj) : Blk (w.alloc o) B cs ty := (Below.heap_alloc _ _ _ h.lt).trans h
theorem Blk.set {w : World} {B : Nat} {cs : Array Value} {ty : TypeId} (h : Blk w B cs ty) (i : Nat) (v : Value) (hi : i < cs.size) : Blk (w.setCell ⟨B, i, none⟩ v) B (cs.setIfInBounds i v) ty := heap_setCell_same w B i _ _ _ h
theorem Blk.far {w : World} {B : Nat} {cs : Array Value} {ty : TypeId} (h : Blk w B cs ty) (p : Addr) (hp : p.block ≠ B) (v : Value) : Blk (w.setCell p v) B cs ty := (Below.heap_setCell _ _ _ _ (Ne.symm hp)).trans h

/-- a slice of whole numbers -/
def RdI (w : World) (A : Option Addr) (n : Nat) (ks : List Int) : Prop :=
  ks.length = n ∧ n ≤ maxLen ∧ (0 < n → ∃ b off, A = some ⟨b, off, none⟩ ∧ ∀ i, i < n → w.cell? ⟨b, off + i, none⟩ = some (.int .i64 (ks.getD i 0)))
theorem RdI.nil (w : World) (A : Option Addr) : RdI w A 0 [] := ⟨rfl, by unfold maxLen; omega, fun h => by omega⟩
theorem RdI.below {w w' : World} {A : Option Addr} {n : Nat} {l : List Int} (h : RdI w A n l) (hb : Below w.heap.size w w') : RdI w' A n l := by
  obtain ⟨h1, h2, h3⟩ := h
  refine ⟨h1, h2, fun hn => ?_⟩
  obtain ⟨b, off, rfl, hc⟩ := h3 hn
  exact ⟨b, off, rfl, fun i hi => (hb.cell (p := ⟨b, off + i, none⟩) (lt_of_cell (hc i hi))).trans (hc i hi)⟩
theorem RdI.same {w w' : World} {A : Option Addr} {n : Nat} {l : List Int} (h : RdI w A n l) (hs : ∀ a : Addr, w'.cell? a = w.cell? a) : RdI w' A n l :=
  ⟨h.1, h.2.1, fun hn => by obtain ⟨b, off, rfl, hc⟩ := h.2.2 hn; exact ⟨b, off, rfl, fun i hi => (hs _).trans (hc i hi)⟩⟩
theorem RdI.empty {w : World} {n : Nat} {l : List Int} (h : RdI w none n l) : n = 0 ∧ l = [] := by
  rcases Nat.eq_zero_or_pos n with h0 | h0
  · exact ⟨h0, List.eq_nil_of_length_eq_zero (by rw [h.1, h0])⟩
  · obtain ⟨b, off, he, _⟩ := h.2.2 h0; cases he
def vI (l : List Int) : List Value := l.map fun (n : Int) => .int .i64 n
theorem vI_snoc (l : List Int) (n : Int) : vI (l ++ [n]) = vI l ++ [.int .i64 n] := by simp [vI]
theorem vI_append (l m : List Int) : vI (l ++ m) = vI l ++ vI m := by simp [vI]
theorem vI_len (l : List Int) : (vI l).length = l.length := by simp [vI]
theorem vI_at (l : List Int) (i : Nat) (h : i < l.length) : (vI l)[i]? = some (.int .i64 (l.getD i 0)) := by simp [vI, h]
theorem vI_one (l : List Int) : ∀ u ∈ vI l, u.oneCell' = true := by
  intro u hu
  simp only [vI, List.mem_map] at hu
  obtain ⟨c, _, rfl⟩ := hu
  rfl
theorem int_info : ∃ i, Tryz.prog.info? 3 = some i ∧ i.zero = some (.int .i64 0) ∧ i.size = 1 ∧ i.bytes = 8 := by
  have h : (Tryz.prog.info? 3).map (fun i => (i.zero, i.size, i.bytes)) = some (some (.int .i64 0), 1, 8) := by kernel_rfl
  cases hq : Tryz.prog.info? 3 with
  | none => simp [hq] at h
  | some i => simp [hq] at h; exact ⟨i, rfl, h⟩
/-- v is a slice of the numbers l in memory of the call's own, made behind w0; what was there at w0 is as it was -/
def OwnI (w0 w : World) (v : Value) (l : List Int) : Prop := Below w0.heap.size w0 w ∧ w.ownsRow w0.heap.size 3 1 v l.length (vI l)
theorem OwnI.nil (w0 w : World) (hb : Below w0.heap.size w0 w) : OwnI w0 w (.slice none 0 0) [] := ⟨hb, rfl, .inl ⟨rfl, rfl⟩⟩
theorem OwnI.below {w0 w w' : World} {v : Value} {l : List Int} (h : OwnI w0 w v l) (hb : Below w.heap.size w w') : OwnI w0 w' v l := by
  obtain ⟨h0, h1, h2⟩ := h
  refine ⟨h0.trans (hb.mono h0.size), h1, ?_⟩
  rcases h2 with h2 | ⟨g, cap, cur, e, h3, h4, h5⟩
  · exact .inl h2
  · exact .inr ⟨g, cap, cur, e, h3, (hb.block g (Array.getElem?_eq_some_iff.1 h4).1).trans h4, h5⟩
theorem OwnI.since {w0 w1 w : World} {v : Value} {l : List Int} (h : OwnI w1 w v l) (hb : Below w0.heap.size w0 w1) : OwnI w0 w v l := by
  obtain ⟨h0, h1, h2⟩ := h
  refine ⟨hb.trans (h0.mono hb.size), h1, ?_⟩
  rcases h2 with h2 | ⟨g, cap, cur, e, h3, h4⟩
  · exact .inl h2
  · exact .inr ⟨g, cap, cur, e, Nat.le_trans hb.size h3, h4⟩
theorem OwnI.base {w0 w : World} {v : Value} {l : List Int} (h : OwnI w0 w v l) : ∀ r, v.ownBlock = some r → w0.heap.size ≤ r := by
  intro r hr
  rcases h.2.2 with ⟨rfl, _⟩ | ⟨g, cap, cur, rfl, hg, _⟩
  · simp [Value.ownBlock] at hr
  · simp [Value.ownBlock] at hr; omega
theorem OwnI.form {w0 w : World} {v : Value} {l : List Int} (h : OwnI w0 w v l) (hk : l.length ≤ 1000000) : ∃ A cap, v = .slice A l.length cap ∧ RdI w A l.length l ∧ (A = none → cap = 0) ∧ l.length ≤ cap ∧ cap ≤ maxLen ∧ ∀ a, A = some a → w0.heap.size ≤ a.block ∧ a.spot = none := by
  obtain ⟨h0, h1, h2⟩ := h
  rcases h2 with ⟨rfl, h0⟩ | ⟨g, cap, cur, rfl, hg, hh, hnc, hcm, hcs, hcu⟩
  · rw [h0]
    obtain rfl : l = [] := List.eq_nil_of_length_eq_zero h0
    exact ⟨none, 0, rfl, RdI.nil _ _, fun _ => rfl, Nat.le_refl _, by unfold maxLen; omega, fun a h => by cases h⟩
  · refine ⟨_, _, rfl, ⟨rfl, by unfold maxLen; omega, fun _ => ⟨g, 0, rfl, fun i hi => ?_⟩⟩, (fun h => by cases h), hnc, hcm, fun a ha => by injection ha with ha; rw [← ha]; exact ⟨hg, rfl⟩⟩
    rw [Nat.zero_add, cell_of_row w g i cur _ (0, 0) hh, ← vI_at l i hi, ← hcu, List.getElem?_take, if_pos (by omega), Array.getElem?_toList]
set_option maxRecDepth 100000 in
theorem wpList_append_ints {w : World} {ops : Array Oper} {rest : List Oper} {o : Oper} {a : Act} {Q : Exit → Act → World → Prop} (hgd : o.guard = none) (s x : Operand)
    (ho : o.op = .call { callee := .builtin .append, args := #[s, x], argTypes := #[24, 24] })
    (w0 : World) (v : Value) (l : List Int) (hs : a.eval s = v) (hown : OwnI w0 w v l)
    (A : Option Addr) (n c : Nat) (ys : List Int) (hx : a.eval x = .slice A n c) (hA : A = none → c = 0) (hr : RdI w A n ys) (hb : l.length + n ≤ 1000000)
    (h : ∀ v' w', OwnI w0 w' v' (l ++ ys) → w.grownBy w' v.ownBlock → wpList Tryz.prog ops Q rest (a.put o.dst v') w') : wpList Tryz.prog ops Q (o :: rest) a w := by
  obtain ⟨i, hi, hz, hsz, hby⟩ := int_info
  have hbase := hown.base
  obtain ⟨hb1, hrow⟩ := hown
  rcases A with _ | ad
  · obtain ⟨rfl, rfl⟩ := hr.empty
    obtain rfl := hA rfl
    refine wpList_append_own_none hgd s x _ ho w0.heap.size 3 i 1 Tryz.underlying24 hi v _ _ hs hrow hx ?_
    exact h v w (by rw [List.append_nil]; exact ⟨hb1, hrow⟩) ⟨rfl, rfl, rfl, Nat.le_refl _, fun _ _ _ => rfl⟩
  · obtain ⟨hl, hm, hc⟩ := hr
    refine wpList_append_own_at w hgd s x _ ho w0.heap.size 3 i _ 1 8 Tryz.underlying24 hi hz hsz hby rfl (by omega) v _ _ hs hrow ad n c (vI ys) hx (by rw [vI_len]; omega) ?_ (vI_one ys) (by unfold maxLen; omega) (by omega) hb1.size ?_
    · intro j u hu
      have hj : j < ys.length := by
        rcases Nat.lt_or_ge j ys.length with hj | hj
        · exact hj
        · rw [List.getElem?_eq_none (by rw [vI_len]; exact hj)] at hu; cases hu
      rw [vI_at ys j hj] at hu
      obtain ⟨b, off, he, hcell⟩ := hc (by omega)
      obtain rfl := Option.some.inj he
      have := hcell j (by omega)
      rw [← hu, ← this]
      congr 1
      unfold Addr.add
      split <;> simp_all
    · intro v' w' hrow' hg _ hat
      refine h v' w' ⟨hb1.grown hg hb1.size hbase, ?_⟩ hg
      rw [List.length_append, hl, vI_append]; exact hrow'
theorem rdI_one (w : World) (z : Int) : RdI (w.alloc (.cells #[.int .i64 z] 3)) (some ⟨w.heap.size, 0, none⟩) 1 [z] := by
  refine ⟨rfl, by unfold maxLen; omega, fun _ => ⟨_, _, rfl, fun i hi => ?_⟩⟩
  obtain rfl : i = 0 := by omega
  rw [World.cell?_alloc_mark]
  rfl
end Go.Proofs.YtjadfpcipicckaaGreat.Qu

namespace Go.Proofs.YtjadfpcipicckaaGreat.Qu
open Go.RowKit Go.Proofs.YtjadfpcipicckaaGreat.Fld
set_option linter.unusedVariables false

set_option maxRecDepth 100000 in
set_option maxHeartbeats 800000 in
theorem indexI_any (A : Option Addr) (n cap : Nat) (l : List Int) (x : Int) (w : World) (hr : RdI w A n l) : Calls Tryz.prog 107 #[.slice A n cap, .int .i64 x] w fun e w' => ∃ k : Int, e = .returned (.int .i64 k) ∧ w = w' ∧ decide (0 ≤ k) = hasI l x := by
  obtain ⟨hl, hm, hc⟩ := hr
  unfold maxLen at hm
  have HL := Lib.hid hl
  have HC := Lib.hid hc
  clear hl hc
  go_enter Tryz.func107, Tryz.ntmps107
  go_wp2
  go_loop [8] (fun i => ∃ k : Nat, k ≤ n ∧ i = .int .i64 k ∧ hasI (l.take k) x = false) (fun i => n - (intOf i).toNat)
  case atStart => exact ⟨0, Nat.zero_le _, rfl, rfl⟩
  case round =>
    obtain ⟨k, hk, rfl, hall⟩ := hrel
    have HA := Lib.hid hall
    clear hall
    by_cases hlt : k < n
    · obtain ⟨b, off, rfl, hcell⟩ := HC.out (by omega)
      have hc := hcell k hlt
      clear hcell
      have HT := Lib.hid (has_take l x k (by rw [HL.out]; exact hlt))
      have HX := Lib.hid (has_at l x k (by rw [HL.out]; exact hlt))
      generalize l.getD k 0 = y at *
      cases hb : (x == y) with
      | true =>
        have HX2 := Lib.hid (HX.out hb)
        clear HX HT
        go_wp2
        go_ret
        exact ⟨_, rfl, rfl, by rw [HX2.out]; simp⟩
      | false =>
        have HT2 := Lib.hid (show hasI (l.take (k + 1)) x = false by rw [HT.out, HA.out, hb]; rfl)
        clear HX HT
        go_wp2
        go_roundw
        case rel => exact ⟨k + 1, by omega, by go_num, HT2.out⟩
        case measure => simp [intOf]; omega
    · obtain rfl : k = n := by omega
      go_wp2
      go_ret
      exact ⟨_, rfl, rfl, by have := HA.out; rw [← HL.out, List.take_length] at this; rw [this]; rfl⟩
set_option maxRecDepth 100000 in
theorem containsI_any (A : Option Addr) (n cap : Nat) (l : List Int) (x : Int) (w : World) (hr : RdI w A n l) : Calls Tryz.prog 75 #[.slice A n cap, .int .i64 x] w fun e w' => e = .returned (.bool (hasI l x)) ∧ w = w' := by
  have HI := Lib.hid (indexI_any A n cap l x w hr)
  clear hr
  go_enter Tryz.func75, Tryz.ntmps75
  go_wp2_with fail
  refine HI.out.mono ?_
  rintro e w' ⟨k, rfl, rfl, hk⟩
  have HK := Lib.hid hk
  clear hk
  go_wp2
  go_ret
  exact ⟨by rw [← HK.out]; rfl, rfl⟩
set_option maxRecDepth 100000 in
set_option maxHeartbeats 1600000 in
theorem rising_any (A : Option Addr) (n cap : Nat) (l : List Int) (w : World) (hr : RdI w A n l) : Calls Tryz.prog 77 #[.slice A n cap] w fun e w' => e = .returned (.bool (upN 0 l)) ∧ w = w' := by
  obtain ⟨hl, hm, hc⟩ := hr
  unfold maxLen at hm
  obtain ⟨B, hB⟩ : ∃ B, upN 0 l = B := ⟨_, rfl⟩
  have HB := Lib.hid hB
  have HL := Lib.hid hl
  have HC := Lib.hid hc
  rw [hB]
  clear hB hl hc
  go_enter Tryz.func77, Tryz.ntmps77
  go_wp2
  go_loop [3, 8] (fun p i => ∃ k : Nat, k ≤ n ∧ i = .int .i64 k ∧ p = .int .i64 ((l.take k).getLastD 0) ∧ upN 0 (l.take k) = true) (fun _ i => n - (intOf i).toNat)
  case atStart => exact ⟨0, Nat.zero_le _, rfl, rfl, rfl⟩
  case round =>
    obtain ⟨k, hk, rfl, rfl, hall⟩ := hrel
    have HA := Lib.hid hall
    clear hall
    by_cases hlt : k < n
    · obtain ⟨b, off, rfl, hcell⟩ := HC.out (by omega)
      have hc := hcell k hlt
      clear hcell
      have HT := Lib.hid (take_succ l k (by rw [HL.out]; exact hlt))
      have HS := Lib.hid (show upN 0 (l.take (k + 1)) = (decide ((l.take k).getLastD 0 < l.getD k 0) && decide (l.getD k 0 ≤ 15)) by rw [HT.out, upN_snoc, HA.out]; rfl)
      have HG := Lib.hid (show (l.take (k + 1)).getLastD 0 = l.getD k 0 by rw [HT.out, last_snoc])
      generalize l.getD k 0 = x at *
      generalize (l.take k).getLastD 0 = p at *
      by_cases h1 : x ≤ p
      · have HF := Lib.hid (show B = false by rw [← HB.out]; exact upN_cut l 0 (k + 1) (by rw [HS.out]; simp; omega))
        go_wp2
        go_ret
        exact ⟨by rw [HF.out]; rfl, rfl⟩
      by_cases h2 : 15 < x
      · have HF := Lib.hid (show B = false by rw [← HB.out]; exact upN_cut l 0 (k + 1) (by rw [HS.out]; simp; omega))
        go_wp2
        go_ret
        exact ⟨by rw [HF.out]; rfl, rfl⟩
      have HK := Lib.hid (show upN 0 (l.take (k + 1)) = true by rw [HS.out]; simp; omega)
      go_wp2
      go_roundw
      case rel => exact ⟨k + 1, by omega, by go_num, by rw [HG.out], HK.out⟩
      case measure => simp [intOf]; omega
    · obtain rfl : k = n := by omega
      have HT := Lib.hid (show B = true by rw [← HB.out]; have := HA.out; rwa [← HL.out, List.take_length] at this)
      go_wp2
      go_ret
      exact ⟨by rw [HT.out]; rfl, rfl⟩
def grpV (VA : Option Addr) (vn vc : Nat) (LA : Option Addr) (ln lc : Nat) : Value := .agg #[.slice VA vn vc, .slice LA ln lc]
set_option maxRecDepth 100000 in
set_option maxHeartbeats 1600000 in
theorem count_any (A : Option Addr) (n cap : Nat) (vs : List Int) (B : Option Addr) (m d : Nat) (l : List Int) (w : World) (hv : RdI w A n vs) (hl : RdI w B m l) : Calls Tryz.prog 78 #[.slice A n cap, .slice B m d] w fun e w' => e = .returned (.int .i64 ((cnt vs l : Nat) : Int)) ∧ w = w' := by
  obtain ⟨hvl, hm, hc⟩ := hv
  unfold maxLen at hm
  have HL := Lib.hid hvl
  have HC := Lib.hid hc
  have HI := Lib.hid (fun x => containsI_any B m d l x w hl)
  have HT := Lib.hid (cnt_take vs l)
  have HLE := Lib.hid (fun k => Nat.le_trans (cnt_le (vs.take k) l) (show (vs.take k).length ≤ k by rw [List.length_take]; omega))
  clear hvl hc hl
  go_enter Tryz.func78, Tryz.ntmps78
  go_wp2
  go_loopw [5, 10] (fun c i wr => ∃ k : Nat, k ≤ n ∧ i = .int .i64 k ∧ c = .int .i64 ((cnt (vs.take k) l : Nat) : Int) ∧ wr = w) (fun _ i _ => n - (intOf i).toNat)
  case atStart => exact ⟨0, Nat.zero_le _, rfl, rfl, rfl⟩
  case round =>
    obtain ⟨k, hk, rfl, rfl, rfl⟩ := hrel
    by_cases hlt : k < n
    · obtain ⟨b, off, rfl, hcell⟩ := HC.out (by omega)
      have hc := hcell k hlt
      clear hcell
      have hle := HLE.out k
      have HT1 := Lib.hid (HT.out k (by rw [HL.out]; exact hlt))
      generalize vs.getD k 0 = y at *
      have HY := Lib.hid (HI.out y)
      generalize cnt (vs.take k) l = c at *
      cases hb : hasI l y with
      | true =>
        rw [hb] at HY HT1
        have HT2 := Lib.hid (show cnt (vs.take (k + 1)) l = c + 1 by rw [HT1.out]; rfl)
        go_wp2_with fail
        refine HY.out.mono ?_
        rintro e w' ⟨rfl, rfl⟩
        go_wp2
        go_roundw
        case rel => exact ⟨k + 1, by omega, by go_num, by rw [HT2.out]; go_num, trivial⟩
        case measure => simp [intOf]; omega
      | false =>
        rw [hb] at HY HT1
        have HT2 := Lib.hid (show cnt (vs.take (k + 1)) l = c by rw [HT1.out]; rfl)
        go_wp2_with fail
        refine HY.out.mono ?_
        rintro e w' ⟨rfl, rfl⟩
        go_wp2
        go_roundw
        case rel => exact ⟨k + 1, by omega, by go_num, by rw [HT2.out], trivial⟩
        case measure => simp [intOf]; omega
    · obtain rfl : k = n := by omega
      have HF := Lib.hid (show cnt (vs.take k) l = cnt vs l by rw [← HL.out, List.take_length])
      go_wp2
      go_ret
      exact ⟨by rw [HF.out]; rfl, rfl⟩
set_option maxRecDepth 100000 in
set_option maxHeartbeats 1600000 in
theorem right_any (VA : Option Addr) (vn vc : Nat) (vs : List Int) (LA : Option Addr) (ln lc : Nat) (ls : List Int) (w : World) (hv : RdI w VA vn vs) (hl : RdI w LA ln ls) :
    Calls Tryz.prog 37 #[grpV VA vn vc LA ln lc] w fun e w' => e = .returned (.bool (grpOk vs ls)) ∧ Below w.heap.size w w' := by
  have hb := alloc_below w (.cells #[.slice VA vn vc, .slice LA ln lc] 26)
  have HB := Lib.hid hb
  have HK := Lib.hid (Blk.new w #[.slice VA vn vc, .slice LA ln lc] 26)
  have HV := Lib.hid (RdI.below hv hb)
  have HL := Lib.hid (RdI.below hl hb)
  have HVN := Lib.hid hv.1
  have hmv := hv.2.1
  unfold maxLen at hmv
  clear hv hl hb
  generalize hwa : w.alloc (.cells #[.slice VA vn vc, .slice LA ln lc] 26) = wa at *
  have H1 := Lib.hid (rising_any VA vn vc vs wa HV.out)
  have H2 := Lib.hid (rising_any LA ln lc ls wa HL.out)
  have H3 := Lib.hid (count_any VA vn vc vs LA ln lc ls wa HV.out HL.out)
  have HG := Lib.hid (show grpOk vs ls = (!(decide (vs.length = 0)) && upN 0 vs && upN 0 ls && !(decide (0 < cnt vs ls))) by rw [← any_cnt]; rfl)
  have HCL := Lib.hid (cnt_le vs ls)
  rw [HVN.out] at HG HCL
  have hcl := HCL.out
  rw [HG.out]
  unfold grpV
  generalize upN 0 vs = b1 at *
  generalize upN 0 ls = b2 at *
  generalize cnt vs ls = c at *
  subst hwa
  have c0 := HK.out.cell 0 _ rfl
  have c1 := HK.out.cell 1 _ rfl
  by_cases h0 : vn = 0
  · subst h0
    go_enter Tryz.func37, Tryz.ntmps37
    go_wp2
    go_ret
    exact ⟨by simp, HB.out⟩
  have j0 : ((vn : Int) == 0) = false := by simp [h0]
  cases b1 with
  | false =>
    go_enter Tryz.func37, Tryz.ntmps37
    go_wp2_with (go_at_call 77; refine H1.out.mono ?_; rintro e w' ⟨rfl, rfl⟩)
    go_ret
    exact ⟨by simp, HB.out⟩
  | true =>
    cases b2 with
    | false =>
      go_enter Tryz.func37, Tryz.ntmps37
      go_wp2_with fail
      refine H1.out.mono ?_
      rintro e w' ⟨rfl, rfl⟩
      go_wp2_with fail
      refine H2.out.mono ?_
      rintro e w' ⟨rfl, rfl⟩
      go_wp2
      go_ret
      exact ⟨by simp, HB.out⟩
    | true =>
      go_enter Tryz.func37, Tryz.ntmps37
      go_wp2_with fail
      refine H1.out.mono ?_
      rintro e w' ⟨rfl, rfl⟩
      go_wp2_with fail
      refine H2.out.mono ?_
      rintro e w' ⟨rfl, rfl⟩
      go_wp2_with fail
      refine H3.out.mono ?_
      rintro e w' ⟨rfl, rfl⟩
      by_cases hc0 : c = 0
      · have q0 : ((c : Int) == 0) = true := by simp [hc0]
        go_wp2
        go_ret
        exact ⟨by simp [h0, hc0], HB.out⟩
      · have q0 : ((c : Int) == 0) = false := by simp [hc0]
        go_wp2
        go_ret
        exact ⟨by simp [h0, Nat.pos_of_ne_zero hc0], HB.out⟩
set_option maxRecDepth 100000 in
set_option maxHeartbeats 1600000 in
theorem need_any (VA : Option Addr) (vn vc : Nat) (vs : List Int) (LA : Option Addr) (ln lc : Nat) (ls : List Int) (w : World) (hv : RdI w VA vn vs) (hl : RdI w LA ln ls) :
    Calls Tryz.prog 99 #[grpV VA vn vc LA ln lc] w fun e w' => e = .returned (.int .i64 (if grpOk vs ls then ((vn / 2 + 1 : Nat) : Int) else 0)) ∧ Below w.heap.size w w' := by
  have hb := alloc_below w (.cells #[.slice VA vn vc, .slice LA ln lc] 26)
  have HB := Lib.hid hb
  have HK := Lib.hid (Blk.new w #[.slice VA vn vc, .slice LA ln lc] 26)
  have HR := Lib.hid (right_any VA vn vc vs LA ln lc ls _ (RdI.below hv hb) (RdI.below hl hb))
  have hmv := hv.2.1
  unfold maxLen at hmv
  unfold grpV at HR ⊢
  clear hv hl hb
  have c0 := HK.out.cell 0 _ rfl
  have c1 := HK.out.cell 1 _ rfl
  cases hg : grpOk vs ls with
  | false =>
    rw [hg] at HR
    go_enter Tryz.func99, Tryz.ntmps99
    go_wp2_with fail
    refine HR.out.mono ?_
    rintro e w1 ⟨rfl, hb1⟩
    have HB1 := Lib.hid (HB.out.trans (hb1.mono HB.out.size))
    clear hb1
    go_wp2
    go_ret
    exact ⟨rfl, HB1.out⟩
  | true =>
    rw [hg] at HR
    have j1 : IntKind.i64.wrap ((vn : Int) / 2 + 1) = ((vn / 2 + 1 : Nat) : Int) := (IntWalk.i64_in _ (by omega)).trans (by omega)
    go_enter Tryz.func99, Tryz.ntmps99
    go_wp2_with fail
    refine HR.out.mono ?_
    rintro e w1 ⟨rfl, hb1⟩
    have HB1 := Lib.hid (HB.out.trans (hb1.mono HB.out.size))
    have K1 := Lib.hid (HK.out.below hb1)
    clear hb1 c0 c1
    have c0 := K1.out.cell 0 (.slice VA vn vc) rfl
    clear HK HR
    go_wp2
    go_ret
    exact ⟨by simp, HB1.out⟩
end Go.Proofs.YtjadfpcipicckaaGreat.Qu

namespace Go.Proofs.YtjadfpcipicckaaGreat.Qu
open Go.RowKit Go.Proofs.YtjadfpcipicckaaGreat.Fld
set_option linter.unusedVariables false

set_option maxRecDepth 100000 in
set_option maxHeartbeats 3200000 in
theorem wins_any (VA : Option Addr) (vn vc : Nat) (vs : List Int) (LA : Option Addr) (ln lc : Nat) (ls : List Int) (B : Option Addr) (m d : Nat) (l : List Int) (w : World) (hv : RdI w VA vn vs) (hl : RdI w LA ln ls) (hs : RdI w B m l) :
    Calls Tryz.prog 66 #[grpV VA vn vc LA ln lc, .slice B m d] w fun e w' => e = .returned (.bool (winsG vs ls l)) ∧ Below w.heap.size w w' := by
  have hb := alloc_below w (.cells #[.slice VA vn vc, .slice LA ln lc] 26)
  have HBN := Lib.hid hb
  have HK := Lib.hid (Blk.new w #[.slice VA vn vc, .slice LA ln lc] 26)
  have HR := Lib.hid (fun W (hW : Below w.heap.size w W) => right_any VA vn vc vs LA ln lc ls W (RdI.below hv hW) (RdI.below hl hW))
  have HN := Lib.hid (fun W (hW : Below w.heap.size w W) => need_any VA vn vc vs LA ln lc ls W (RdI.below hv hW) (RdI.below hl hW))
  have HC := Lib.hid (fun W (hW : Below w.heap.size w W) => count_any VA vn vc vs B m d l W (RdI.below hv hW) (RdI.below hs hW))
  have HA := Lib.hid (fun W (hW : Below (w.alloc (.cells #[.slice VA vn vc, .slice LA ln lc] 26)).heap.size (w.alloc (.cells #[.slice VA vn vc, .slice LA ln lc] 26)) W) => And.intro ((HK.out.below hW).cell 0 (.slice VA vn vc) rfl) ((HK.out.below hW).cell 1 (.slice LA ln lc) rfl))
  have hcl := cnt_le vs l
  have hmv := hv.2.1
  rw [hv.1] at hcl
  unfold maxLen at hmv
  have HW := Lib.hid (show winsG vs ls l = (grpOk vs ls && decide (vn / 2 + 1 ≤ cnt vs l)) by unfold winsG need; rw [hv.1])
  rw [HW.out]
  have HAL := Lib.hid (Below.refl (w.alloc (.cells #[.slice VA vn vc, .slice LA ln lc] 26)).heap.size (w.alloc (.cells #[.slice VA vn vc, .slice LA ln lc] 26)))
  unfold grpV at HR HN  ⊢
  generalize cnt vs l = c at *
  have c0 := HK.out.cell 0 (.slice VA vn vc) rfl
  have c1 := HK.out.cell 1 (.slice LA ln lc) rfl
  clear hv hl hs hb HK
  cases hg : grpOk vs ls with
  | false =>
    rw [hg] at HR
    go_enter Tryz.func66, Tryz.ntmps66
    go_wp2_with fail
    refine wp_region_any (by kernel_rfl) ?_
    try (change wpAny _ _ _ _ _ _ _ (World.drew _))
    refine wpAny_ready (rs := [0]) (by kernel_rfl) (by simp) ?_
    refine AllReady.cons rfl (fun K hK => ?_) AllReady.nil
    go_simp
    refine hK _ _ ?_
    clear hK K
    refine wpAny_ready (rs := [1]) (by kernel_rfl) (by simp) ?_
    refine AllReady.cons rfl (fun K hK => ?_) AllReady.nil
    go_simp
    go_wp2_with ((go_at_call 37; refine (HR.out _ (by first | exact HBN.out | exact HBN.out.drew)).mono ?_; rintro e w1 ⟨rfl, hb1⟩; have HAL := Lib.hid ((show Below (w.alloc (.cells #[.slice VA vn vc, .slice LA ln lc] 26)).heap.size (w.alloc (.cells #[.slice VA vn vc, .slice LA ln lc] 26)) _ from by first | exact HAL.out | exact HAL.out.drew).trans (hb1.mono (by exact HAL.out.size))); have HBN := Lib.hid ((show Below w.heap.size w _ from by first | exact HBN.out | exact HBN.out.drew).trans (hb1.mono (by exact HBN.out.size))); clear c0 c1 hb1; obtain ⟨c0, c1⟩ := HA.out _ HAL.out))
    try (refine hK _ _ ?_; clear hK K)
    refine wpAny_take (i := 2) (v := .bool false) rfl (by kernel_rfl) (by kernel_rfl) (by kernel_rfl) (fun _ _ _ h => h) (Or.inl ⟨by rfl, fun w => by go_simp⟩) ?_
    refine wpAny_take (i := 3) (v := undef) rfl (by kernel_rfl) (by kernel_rfl) (by kernel_rfl) (fun _ _ _ h => h) (Or.inr ⟨by rfl, rfl⟩) ?_
    refine wpAny_take (i := 4) (v := undef) rfl (by kernel_rfl) (by kernel_rfl) (by kernel_rfl) (fun _ _ _ h => h) (Or.inr ⟨by rfl, rfl⟩) ?_
    refine wpAny_take (i := 5) (v := undef) rfl (by kernel_rfl) (by kernel_rfl) (by kernel_rfl) (fun _ _ _ h => h) (Or.inr ⟨by rfl, rfl⟩) ?_
    refine wpAny_take (i := 6) (v := undef) rfl (by kernel_rfl) (by kernel_rfl) (by kernel_rfl) (fun _ _ _ h => h) (Or.inr ⟨by rfl, rfl⟩) ?_
    refine wpAny_take (i := 7) (v := undef) rfl (by kernel_rfl) (by kernel_rfl) (by kernel_rfl) (fun _ _ _ h => h) (Or.inr ⟨by rfl, rfl⟩) ?_
    refine wpAny_take (i := 8) (v := undef) rfl (by kernel_rfl) (by kernel_rfl) (by kernel_rfl) (fun _ _ _ h => h) (Or.inr ⟨by rfl, rfl⟩) ?_
    refine wpAny_take (i := 9) (v := undef) rfl (by kernel_rfl) (by kernel_rfl) (by kernel_rfl) (fun _ _ _ h => h) (Or.inr ⟨by rfl, rfl⟩) ?_
    refine wpAny_take (i := 10) (v := .bool false) rfl (by kernel_rfl) (by kernel_rfl) (by kernel_rfl) (fun _ _ _ h => h) (Or.inl ⟨by rfl, fun w => by go_simp⟩) ?_
    refine wpAny_take (i := 11) (v := .bool false) rfl (by kernel_rfl) (by kernel_rfl) (by kernel_rfl) (fun _ _ _ h => h) (Or.inl ⟨by rfl, fun w => by go_simp⟩) ?_
    refine wpAny_done (by kernel_rfl) ?_ _
    go_simp
    go_wp2
    go_ret
    exact ⟨rfl, by first | exact HBN.out | exact HBN.out.drew⟩
  | true =>
    rw [hg] at HR HN
    simp only [if_true, Bool.true_and] at HN ⊢
    go_enter Tryz.func66, Tryz.ntmps66
    go_wp2_with fail
    go_region_held3 (fun w' => w'.cell? ⟨w.heap.size, 0, none⟩ = some (.slice VA vn vc) ∧ w'.cell? ⟨w.heap.size, 1, none⟩ = some (.slice LA ln lc)) (first | exact ⟨by assumption, by assumption⟩ | go_keep) (first | (go_at_call 37; refine (HR.out _ (by first | exact HBN.out | exact HBN.out.drew)).mono ?_; rintro e w1 ⟨rfl, hb1⟩; have HAL := Lib.hid ((show Below (w.alloc (.cells #[.slice VA vn vc, .slice LA ln lc] 26)).heap.size (w.alloc (.cells #[.slice VA vn vc, .slice LA ln lc] 26)) _ from by first | exact HAL.out | exact HAL.out.drew).trans (hb1.mono (by exact HAL.out.size))); have HBN := Lib.hid ((show Below w.heap.size w _ from by first | exact HBN.out | exact HBN.out.drew).trans (hb1.mono (by exact HBN.out.size))); clear c0 c1 hb1; obtain ⟨c0, c1⟩ := HA.out _ HAL.out) | (go_at_call 78; refine (HC.out _ (by first | exact HBN.out | exact HBN.out.drew)).mono ?_; rintro e w1 ⟨rfl, rfl⟩) | (go_at_call 99; refine (HN.out _ (by first | exact HBN.out | exact HBN.out.drew)).mono ?_; rintro e w1 ⟨rfl, hb1⟩; have HAL := Lib.hid ((show Below (w.alloc (.cells #[.slice VA vn vc, .slice LA ln lc] 26)).heap.size (w.alloc (.cells #[.slice VA vn vc, .slice LA ln lc] 26)) _ from by first | exact HAL.out | exact HAL.out.drew).trans (hb1.mono (by exact HAL.out.size))); have HBN := Lib.hid ((show Below w.heap.size w _ from by first | exact HBN.out | exact HBN.out.drew).trans (hb1.mono (by exact HBN.out.size))); clear c0 c1 hb1; obtain ⟨c0, c1⟩ := HA.out _ HAL.out))
    all_goals
      go_wp2
      go_ret
      exact ⟨congrArg Ending.returned (congrArg Value.bool (decide_eq_decide.2 (by omega))), by first | exact HBN.out | exact HBN.out.drew⟩
end Go.Proofs.YtjadfpcipicckaaGreat.Qu
