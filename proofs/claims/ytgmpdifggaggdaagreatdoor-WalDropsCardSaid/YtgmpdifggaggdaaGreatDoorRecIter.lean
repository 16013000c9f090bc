/-
  The iterator of package record (records, and the function that it makes): it hands the contents of the records with which the bytes begin, one behind the other, to whatever loop body that leaves the bytes alone. Conditions: the slice's cells can be read.
-/
import Derived.Test.YtgmpdifggaggdaaGreatDoorJRecBase
import Derived.RangeFuncNested
import Derived.RangeFuncBound
import Derived.RangeFuncCalls
import Derived.RangeFuncLeaves
import Derived.RangeFuncBox
import Derived.Shelf.Abstract
import Derived.Shelf.RegionOpen
import Derived.OwnWalkIn
import Derived.TacticsInMore
import Derived.LoopNIn
import Derived.LoopIn
namespace Go.Proofs.YtgmpdifggaggdaaGreatDoor.Rc
open Go.RowKit Go.Shelf
open Fld (Bytes val Rd past)
set_option linter.unusedVariables false
attribute [local go_sem] Oper.semAt_some

/-- a piece of the bytes that were there at w0, with what it holds -/
structure Piece (w0 : World) where
  a : Addr
  n : Nat
  cap : Nat
  t : List Int
  rd : Rd w0 (some a) n t
  few : n ≤ 65536
def Piece.enc {w0 : World} (x : Piece w0) : Value := .slice (some x.a) x.n x.cap
/-- how many bytes a slice has -/
def lenOf (v : Value) : Nat := match v with | .slice _ n _ => n | _ => 0
theorem lenOf_slice (A : Option Addr) (n cap : Nat) : lenOf (.slice A n cap) = n := rfl
def Txts {w0 : World} (xs : List (Piece w0)) : List (List Int) := xs.map (·.t)
theorem txts_snoc {w0 : World} (xs : List (Piece w0)) (x : Piece w0) : Txts (xs ++ [x]) = Txts xs ++ [x.t] := by simp [Txts]
/-- the iterator's round: what has come, what is left -/
def ItR (w0 : World) (zs : List Int) (J : List (Piece w0) → World → Prop) (v : Value) (wr : World) : Prop :=
  ∃ (pre : List (Piece w0)) (A : Option Addr) (n cap : Nat) (rest : List Int), v = .slice A n cap ∧ Sl w0 A n cap rest ∧ zs = recs (Txts pre) ++ rest ∧ Small (Txts pre) ∧ J pre wr ∧ Below w0.heap.size w0 wr
def ItEnd (w0 : World) (zs : List Int) (J Jx : List (Piece w0) → World → Prop) (e : Ending) (W' : World) : Prop :=
  (∃ v, e = .returned v) ∧ ((∃ xs, Sc zs (Txts xs) ∧ J xs W') ∨ (∃ pre : List (Piece w0), True ∧ Jx pre W'))
theorem sl_rd {w0 w : World} {A : Option Addr} {n cap : Nat} {zs : List Int} (h : Sl w0 A n cap zs) (hb : Below w0.heap.size w0 w) : Sl w A n cap zs := h.below hb

set_option maxRecDepth 100000 in
set_option maxHeartbeats 1600000 in
theorem iter_in (m : Nat) (hm : 1 ≤ m) (l Bn : Nat) (w0 : World) (A : Option Addr) (n cap : Nat) (zs : List Int) (hs : Sl w0 A n cap zs) (J Jx : List (Piece w0) → World → Prop)
    (hJ : ∀ pre W k, J pre W → J pre (W.drewN k))
    (hY : ∀ pre x W, J pre W → pre.length < n → YieldAt Fence.wide (m - 1) Tryz.prog l #[x.enc] W fun e W' =>
      (e = .returned (.bool true) ∧ J (pre ++ [x]) W' ∧ Below w0.heap.size W W') ∨ (e = .returned (.bool false) ∧ Jx (pre ++ [x]) W'))
    (W : World) (hB : Below w0.heap.size w0 W) (hBn : W.cell? ⟨Bn, 0, none⟩ = some (.slice A n cap)) (h0 : J [] W) :
    CallsIn Fence.wide m Tryz.prog 116 #[.func (.yield l) #[] #[], .pointer (some ⟨Bn, 0, none⟩)] W (ItEnd w0 zs J Jx) := by
  have HJ := Lib.hid hJ
  have HY := Lib.hid hY
  have HN := Lib.hid hs.1.1
  have HS := Lib.hid (show ItR w0 zs J (.slice A n cap) W from ⟨[], A, n, cap, zs, rfl, hs, by simp [Txts, recs], by simp [Txts]; exact small_nil, h0, hB⟩)
  clear hJ hY hs h0 hB
  refine callsIn_of_wp Tryz.func116 rfl trivial ?_ rfl
  simp only [Tryz.ntmps116, List.size_toArray, List.length_cons, List.length_nil, Nat.reduceAdd, Nat.reduceSub, Array.replicate_succ, Array.replicate_zero, List.push_toArray, List.append_toArray, List.nil_append, List.cons_append]
  gi_wp2
  gi_loopw [3] (fun v wr => ItR w0 zs J v wr) (fun v _ => lenOf v)
  case atStart => exact HS.out
  case round =>
    obtain ⟨pre, A1, n1, cap1, rest, rfl, hs1, he, hsm, hj, hb⟩ := hrel
    have HS1 := Lib.hid hs1
    have HE := Lib.hid he
    have HSM := Lib.hid hsm
    have HJ1 := Lib.hid hj
    have HB1 := Lib.hid hb
    clear hs1 he hsm hj hb
    by_cases hi : isRec rest
    · obtain ⟨b, off, rfl⟩ := sl_addr HS1.out (by have := hi.1; rw [HS1.out.1.1] at this; omega)
      have HF := Lib.hid (first_yes b off n1 cap1 rest wr (HS1.out.below HB1.out) hi)
      have hl8 : 8 + (body rest).length ≤ n1 := by
        have := (isRec_split HS1.out.1.2.2.1 hi).2.2
        have h3 := hi.2.2.1
        rw [HS1.out.1.1] at h3
        omega
      have hsm := (isRec_split HS1.out.1.2.2.1 hi).2.1
      have HSP := Lib.hid (isRec_split HS1.out.1.2.2.1 hi).1
      have HX := Lib.hid (show ∃ x : Piece w0, x.enc = .slice (some (past ⟨b, off, none⟩ cap1 8)) (body rest).length (cap1 - 8) ∧ x.t = body rest from
        ⟨⟨past ⟨b, off, none⟩ cap1 8, (body rest).length, cap1 - 8, body rest, by
          have h := (HS1.out.tail 8 (by omega)).1.cut (body rest).length (by omega)
          have e : (rest.drop 8).take (body rest).length = body rest := by rw [(isRec_split HS1.out.1.2.2.1 hi).2.2]; rfl
          rw [e] at h
          exact h, hsm⟩, rfl, rfl⟩)
      gi_wp2_with fail
      refine ⟨trivial, ?_⟩
      refine (callsIn_wide.2 HF.out).mono ?_
      rintro e w1 ⟨rfl, k1, rfl⟩
      obtain ⟨x, hxe, hxt⟩ := HX.out
      have HXT := Lib.hid hxt
      have hpl : pre.length < n := by
        have h1 := congrArg List.length HE.out
        have h2 := recs_ge (Txts pre)
        rw [HN.out, List.length_append, HS1.out.1.1] at h1
        have h3 : (Txts pre).length = pre.length := by simp [Txts]
        omega
      obtain ⟨fn, tmps, assign, bodyc, hy, hR⟩ := HY.out pre x (wr.drewN k1) (HJ.out _ _ _ HJ1.out) hpl
      rw [hxe] at hy
      have r1 := run_from b off n1 cap1 (8 + (body rest).length) hl8 HS1.out.2.1 (by have := HS1.out.2.2.1; unfold maxLen at this; exact this)
      push_cast at r1
      have HTL := Lib.hid (HS1.out.tail (8 + (body rest).length) hl8)
      clear hxt hxe HX HF
      have HHY := Lib.hid HY.out
      clear HY
      generalize hL : (body rest).length = L at *
      have HL := Lib.hid hL
      clear hL
      gi_wp2
      refine hR.mono ?_
      rintro e W3 (⟨rfl, hJ3, hk3⟩ | ⟨rfl, hJx3⟩)
      · gi_wp2
        go_roundw
        case rel => exact ⟨pre ++ [x], _, _, _, rest.drop (8 + L), rfl, HTL.out, by rw [txts_snoc, recs_snoc, HXT.out, List.append_assoc, ← HSP.out]; exact HE.out, by rw [txts_snoc, HXT.out]; exact small_snoc HSM.out (by rw [HL.out]; exact hsm), hJ3, (HB1.out.trans (c := wr.drewN k1) ⟨rfl, rfl, rfl, Nat.le_refl _, fun _ _ => rfl⟩).trans hk3⟩
        case measure => simp [lenOf]; omega
      · gi_wp2
        refine bodyPost_ret (results_none rfl _ _ _) rfl ?_
        exact ⟨⟨_, rfl⟩, .inr ⟨pre ++ [x], trivial, hJx3⟩⟩
    · have HF := Lib.hid (first_no A1 n1 cap1 rest wr (HS1.out.below HB1.out) hi)
      gi_wp2_with (refine ⟨trivial, ?_⟩; gi_at_call 117; refine (callsIn_wide.2 HF.out).mono ?_; rintro e w1 ⟨rfl, k1, rfl⟩)
      all_goals first | (refine ⟨fun _ h => (by cases h), ?_⟩; gi_wp2) | skip
      all_goals
        refine bodyPost_ret (results_none rfl _ _ _) rfl ?_
        exact ⟨⟨_, rfl⟩, .inl ⟨pre, ⟨rest, HE.out, HSM.out, first_none hi⟩, HJ.out _ _ _ HJ1.out⟩⟩

set_option maxHeartbeats 400000 in
theorem records_in (m : Nat) (A : Option Addr) (n cap : Nat) (w : World) :
    CallsIn Fence.wide m Tryz.prog 85 #[.slice A n cap] w fun e w' => e = .returned (.func (.func 116) #[] #[.pointer (some ⟨w.heap.size, 0, none⟩)]) ∧ w' = w.alloc (.cells #[.slice A n cap] 45) := by
  refine callsIn_of_wp Tryz.func85 rfl trivial ?_ rfl
  simp only [Tryz.ntmps85, List.size_toArray, List.length_cons, List.length_nil, Nat.reduceAdd, Nat.reduceSub, Array.replicate_succ, Array.replicate_zero, List.push_toArray, List.append_toArray, List.nil_append, List.cons_append]
  gi_wp2
  go_ret
  exact ⟨rfl, rfl⟩
theorem grown_draws (w : World) (k : Nat) : w.grownBy (w.drewN k) none := ⟨rfl, rfl, rfl, Nat.le_refl _, fun _ _ _ => rfl⟩
theorem iter_stops (m : Nat) (hm : 1 ≤ m) (Bn : Nat) (w0 w : World) (A : Option Addr) (n cap : Nat) (zs : List Int) (hs : Sl w0 A n cap zs) (hB : Below w0.heap.size w0 w) (hBn : w.cell? ⟨Bn, 0, none⟩ = some (.slice A n cap)) :
    SeqStopsK Fence.wide m Tryz.prog 116 #[.pointer (some ⟨Bn, 0, none⟩)] (fun x : Piece w0 => #[x.enc]) (Below w0.heap.size) (fun xs => Sc zs (Txts xs)) (fun _ => True) n w := fun l J Jx W hW hJ _ hY h0 =>
  iter_in m hm l Bn w0 A n cap zs hs J Jx (fun pre W k h => hJ pre W _ none h (grown_draws W k) (fun r e => by cases e)) hY W (hB.trans (hW.mono hB.size)) ((hW.cell (p := ⟨Bn, 0, none⟩) (Fld.lt_of_cell hBn)).trans hBn) h0
end Go.Proofs.YtgmpdifggaggdaaGreatDoor.Rc
