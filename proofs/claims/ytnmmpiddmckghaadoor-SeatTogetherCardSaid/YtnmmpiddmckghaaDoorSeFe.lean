/-
  Layer 13: free of the program: the seats that are not taken. Conditions: the groups and the taken seats can be read.
-/
import Derived.Test.YtnmmpiddmckghaaDoorSeSl
import Derived.Test.YtnmmpiddmckghaaDoorSeBst
import Derived.Test.YtnmmpiddmckghaaDoorSeE
namespace Go.Proofs.YtnmmpiddmckghaaDoor.Se
open Go.RowKit Go.Proofs.YtnmmpiddmckghaaDoor.Qu Go.Proofs.YtnmmpiddmckghaaDoor.Fld
set_option linter.unusedVariables false

/-- the row of seats behind k of the taken ones -/
def outL (tk : List Int) (N : Nat) : List Bool := (List.range N).map fun (i : Nat) => hasI tk (i : Int)
theorem outL_len (tk : List Int) (N : Nat) : (outL tk N).length = N := by simp [outL]
theorem outL_at (tk : List Int) (N i : Nat) (h : i < N) : (outL tk N).getD i false = hasI tk (i : Int) := by simp [outL, h]
theorem outL_nil (N : Nat) : outL [] N = List.replicate N false := by
  apply List.ext_getElem?
  intro i
  by_cases h : i < N
  · simp [outL, h, hasI]
  · simp [outL, h]
theorem outL_hit {tk : List Int} {N k j : Nat} (hk : k < tk.length) (hj : tk.getD k 0 = (j : Int)) (hN : j < N) : (outL (tk.take k) N).set j true = outL (tk.take (k + 1)) N := by
  apply List.ext_getElem?
  intro i
  rw [List.getElem?_set]
  by_cases h : i < N
  · by_cases hij : j = i
    · subst hij
      have h1 : hasI (tk.take (k + 1)) (j : Int) = true := by rw [has_take tk (j : Int) k hk, hj]; simp
      simp [outL, hN, h1]
    · rw [if_neg hij]
      have h2 : ((i : Int) == (j : Int)) = false := by simp; omega
      have h1 : hasI (tk.take (k + 1)) (i : Int) = hasI (tk.take k) (i : Int) := by rw [has_take tk (i : Int) k hk, hj, h2, Bool.or_false]
      simp [outL, h, h1]
  · rw [if_neg (by omega)]
    simp [outL, h]
theorem outL_miss {tk : List Int} {N k : Nat} (hk : k < tk.length) (h : ¬ (0 ≤ tk.getD k 0 ∧ tk.getD k 0 < N)) : outL (tk.take k) N = outL (tk.take (k + 1)) N := by
  apply List.ext_getElem?
  intro i
  by_cases hi : i < N
  · have h2 : ((i : Int) == tk.getD k 0) = false := by simp only [beq_eq_false_iff_ne]; omega
    have h1 : hasI (tk.take (k + 1)) (i : Int) = hasI (tk.take k) (i : Int) := by rw [has_take tk (i : Int) k hk, h2, Bool.or_false]
    simp [outL, hi, h1]
  · simp [outL, hi]
set_option maxRecDepth 100000 in
set_option maxHeartbeats 3200000 in
theorem free_any (r : Int) (A : Option Addr) (n c : Nat) (gs : List Int) (T : Option Addr) (tn tc : Nat) (tk : List Int) (w : World) (hr : RdI w A n gs) (ht : RdI w T tn tk) :
    Calls Tryd.prog 32 #[layV r A n c, .slice T tn tc] w (NewI w (frN tk (cntS r gs).toNat)) := by
  have hb := alloc_below w (layO r A n c)
  have hr' := RdI.below hr hb
  have ht' := RdI.below ht hb
  have HK := layO_blk w r A n c
  unfold layO at *
  obtain ⟨W, hW⟩ : ∃ W, w.alloc (.cells #[.int .i64 r, .slice A n c] 24) = W := ⟨_, rfl⟩
  rw [hW] at hb hr' HK ht'
  have HW := Lib.hid hW
  have HB := Lib.hid hb
  have HC1 := Lib.hid (count_any r A n c gs W hr')
  have HT := Lib.hid ht'
  have hcb := cnt_bd r gs
  have hm := ht.2.1
  have htl := ht.1
  unfold maxLen at hm
  obtain ⟨N, hN⟩ : ∃ N : Nat, cntS r gs = N := ⟨(cntS r gs).toNat, by omega⟩
  rw [hN] at HC1 hcb ⊢
  rw [Int.toNat_natCast]
  unfold layV at *
  have c0 := HK.cell 0 (.int .i64 r) rfl
  have c1 := HK.cell 1 (.slice A n c) rfl
  clear hr hr' HK hb hW hN ht ht'
  go_enter Tryd.func32, Tryd.ntmps32
  go_wp2_with (first | rw [HW.out] | fail)
  refine HC1.out.mono ?_
  rintro e w1 ⟨rfl, hb1⟩
  have HB1 := Lib.hid (HB.out.trans (hb1.mono HB.out.size))
  have HT1 := Lib.hid (HT.out.below hb1)
  clear hb1 c0 c1
  go_wp2_with (refine wpList_make_bools rfl _ _ rfl (N : Int) N rfl rfl rfl (by omega) ?_)
  intro w2 hbk hb2
  rw [← outL_nil] at hbk
  have HBK := Lib.hid hbk
  have HB2 := Lib.hid (HB1.out.trans (hb2.mono HB1.out.size))
  have HT2 := Lib.hid (HT1.out.below hb2)
  have hg0 : w.heap.size ≤ w1.heap.size := HB1.out.size
  clear hbk hb2
  generalize w1.heap.size = g at *
  have HTL := Lib.hid htl
  clear htl
  go_wp2
  go_loopw [15] (fun i wr => ∃ k : Nat, k ≤ tn ∧ i = .int .i64 k ∧ Blk wr g (bRow (outL (tk.take k) N)) 4 ∧ Below w.heap.size w wr ∧ RdI wr T tn tk) (fun i _ => tn - (intOf i).toNat)
  case atStart => exact ⟨0, by omega, rfl, HBK.out, HB2.out, HT2.out⟩
  case round =>
    obtain ⟨k, hk, rfl, hbk, hbw, hrt⟩ := hrel
    have HBK := Lib.hid hbk
    have HBW := Lib.hid hbw
    have HRT := Lib.hid hrt
    have hbs := bRow_size (outL (tk.take k) N)
    rw [outL_len] at hbs
    by_cases hlt : k < tn
    · obtain ⟨b, off, rfl, hcell⟩ := hrt.2.2 (by omega)
      have hc := hcell k hlt
      have HHIT := Lib.hid (fun j => outL_hit (tk := tk) (N := N) (k := k) (j := j) (by rw [HTL.out]; exact hlt))
      have HMISS := Lib.hid (outL_miss (tk := tk) (N := N) (k := k) (by rw [HTL.out]; exact hlt))
      have HFAR := Lib.hid (show b ≠ g by
        intro e
        subst e
        have h1 := cell_of_row wr b (off + k) _ _ (0, 0) hbk
        rw [hc] at h1
        have h2 := h1.symm
        rcases Nat.lt_or_ge (off + k) (outL (tk.take k) N).length with h3 | h3
        · rw [bRow_at _ _ h3] at h2; cases h2
        · rw [Array.getElem?_eq_none (by rw [bRow_size]; exact h3)] at h2; cases h2)
      clear hrt hbw hcell
      generalize hy : tk.getD k 0 = y at *
      have HY := Lib.hid hy
      clear hy
      by_cases h0 : y < 0
      · have HBK2 := Lib.hid (show Blk wr g (bRow (outL (tk.take (k + 1)) N)) 4 by rw [← HMISS.out (by omega)]; exact HBK.out)
        clear hbk
        go_wp2
        go_roundw
        case rel => exact ⟨k + 1, by omega, by go_num, HBK2.out, HBW.out, HRT.out⟩
        case measure => simp [intOf]; omega
      by_cases h1 : (N : Int) ≤ y
      · have HBK2 := Lib.hid (show Blk wr g (bRow (outL (tk.take (k + 1)) N)) 4 by rw [← HMISS.out (by omega)]; exact HBK.out)
        have h0' : 0 ≤ y := by omega
        have h1' : ¬ y < (N : Int) := by omega
        clear hbk
        go_wp2
        go_roundw
        case rel => exact ⟨k + 1, by omega, by go_num, HBK2.out, HBW.out, HRT.out⟩
        case measure => simp [intOf]; omega
      obtain ⟨j, rfl⟩ : ∃ j : Nat, y = j := ⟨y.toNat, by omega⟩
      have hjN : j < N := by omega
      have hfz := hbk.free j
      have hcj := hbk.cell j _ (bRow_at _ j (by rw [outL_len]; exact hjN))
      have HBK2 := Lib.hid (show Blk (wr.setCell ⟨g, j, none⟩ (.bool true)) g (bRow (outL (tk.take (k + 1)) N)) 4 by
        have := hbk.set j (.bool true) (by rw [hbs]; exact hjN)
        rw [bRow_set, HHIT.out j rfl hjN] at this
        exact this)
      have HBW2 := Lib.hid (HBW.out.setCell (p := ⟨g, j, none⟩) hg0 (.bool true))
      have HRT2 := Lib.hid (show RdI (wr.setCell ⟨g, j, none⟩ (.bool true)) (some ⟨b, off, none⟩) tn tk from ⟨HRT.out.1, HRT.out.2.1, fun hn => by
        obtain ⟨b', off', he, hcc⟩ := HRT.out.2.2 hn
        injection he with he
        injection he with e1 e2
        subst e1 e2
        refine ⟨b, off, rfl, fun i hi => ?_⟩
        rw [← hcc i hi]
        exact World.cell?_of_block (Below.heap_setCell _ _ _ _ HFAR.out)⟩)
      have hj0 : (0 : Int) ≤ (j : Int) := by omega
      have hj1 : (j : Int) < (N : Int) := by omega
      clear hbk
      go_wp2
      go_roundw
      case rel => exact ⟨k + 1, by omega, by go_num, HBK2.out, HBW2.out, HRT2.out⟩
      case measure => simp [intOf]; omega
    · obtain rfl : k = tn := by omega
      have hbk2 : Blk wr g (bRow (outL tk N)) 4 := by have := HBK.out; rwa [← HTL.out, List.take_length] at this
      have HBK2 := Lib.hid hbk2
      have HO := Lib.hid (OwnI.nil wr wr (Below.refl _ _))
      have hgw : g < wr.heap.size := hbk2.lt
      clear hbk hbw hrt hbk2 HBK
      obtain ⟨wo, rfl⟩ : ∃ wo, wo = wr := ⟨_, rfl⟩
      have HBG := Lib.hid (fun (w3 : World) (h : Below wo.heap.size wo w3) => HBK2.out.below h)
      have HFS := Lib.hid (fun k => fr_succ tk k)
      have HFL := Lib.hid (fun k => fr_len tk k)
      clear HBK2
      go_wp2
      go_loopw [8, 33] (fun v i w3 => ∃ k : Nat, k ≤ N ∧ i = .int .i64 k ∧ OwnI wo w3 v (frN tk k)) (fun _ i _ => N - (intOf i).toNat)
      case atStart => exact ⟨0, by omega, rfl, HO.out⟩
      case round =>
        obtain ⟨k, hk, rfl, ho⟩ := hrel
        have HO1 := Lib.hid ho
        have hbk3 := HBG.out _ ho.1
        by_cases hlt : k < N
        · have hck := hbk3.cell k _ (bRow_at _ k (by rw [outL_len]; exact hlt))
          rw [outL_at _ _ _ hlt] at hck
          have HS := Lib.hid (HFS.out k)
          have hl9 := HFL.out k
          clear hbk3 ho
          have hk0 : (0 : Int) ≤ (k : Int) := by omega
          have hk1 : (k : Int) < (N : Int) := by omega
          cases hh : hasI tk (k : Int) with
          | true =>
            rw [hh] at HS hck
            have HS2 := Lib.hid (show frN tk (k + 1) = frN tk k by rw [HS.out, if_pos rfl, List.append_nil])
            go_wp2
            go_roundw
            case rel => exact ⟨k + 1, by omega, by go_num, by rw [HS2.out]; exact HO1.out⟩
            case measure => simp [intOf]; omega
          | false =>
            rw [hh] at HS hck
            have HS2 := Lib.hid (show frN tk (k + 1) = frN tk k ++ [(k : Int)] by rw [HS.out]; simp)
            go_wp2_with (at_builtin; refine wpList_append_ints rfl _ _ rfl wo _ (frN tk k) rfl (HO1.out.below (alloc_below _ _)) _ 1 1 [(k : Int)] rfl (fun h => by cases h) (rdI_one _ (k : Int)) (by omega) ?_; intro v4 w4 hO4 _; have HO4 := Lib.hid hO4; clear hO4)
            go_roundw
            case rel => exact ⟨k + 1, by omega, by go_num, by rw [HS2.out]; exact HO4.out⟩
            case measure => simp [intOf]; omega
        · obtain rfl : k = N := by omega
          clear hbk3 ho
          go_wp2
          go_ret
          exact ⟨_, rfl, HO1.out.since HBW.out⟩
end Go.Proofs.YtnmmpiddmckghaaDoor.Se
