/-
  Layer 8: RlogScripts. Conditions: the arguments can be read.
-/
import Derived.Test.YtafjgaapefhggaaRlgT
import Derived.Test.YtafjgaapefhggaaRlgU
import Derived.Test.YtafjgaapefhggaaRlgV
import Derived.Test.YtafjgaapefhggaaRlgX
namespace Go.Proofs.Ytafjgaapefhggaa.Rg
open Go.RowKit Go.Proofs.Ytafjgaapefhggaa.Fld
set_option linter.unusedVariables false

/-- the sizes that a few entries keep -/
theorem few_at {l : List Stp} (h : ∀ k, k ≤ l.length → k ≤ 100 → sumN (l.take k) ≤ 5000) (i : Nat) (hi : i < l.length) (hi2 : i < 100) : sumN (l.take (i + 1)) = sumN (l.take i) + l[i].n ∧ sumN (l.take i) ≤ 5000 ∧ l[i].n ≤ 5000 := by
  have h1 := sumN_take l i hi
  have h2 := h (i + 1) (by omega) (by omega)
  exact ⟨h1, by omega, by omega⟩
theorem len_do {W0 w w' : World} {g : Nat} {v v' : Value} {s : St} {xs xs' : List EA} {x : Stp} (h : Im W0.heap.size w g s v xs) (h' : Im W0.heap.size w' g (stDo x s) v' xs') (hx : x.ls.length = x.n) : xs'.length ≤ xs.length + x.n := by
  have h1 := stDo_len x s
  rw [h.n, h'.n, hx] at h1
  exact h1
set_option maxRecDepth 100000 in
set_option maxHeartbeats 3200000 in
theorem scripts_walk (b t : Int) (A : Option Addr) (n cap : Nat) (l : List Stp) (w : World) (hr : RdSt w A n l) : Calls Try.prog 4 #[.agg #[.int .i64 b, .int .i64 t], .slice A n cap] w fun e w' => e = .returned (.bool true) ∧ Below w.heap.size w w' := by
  have HB1 := Lib.hid (alloc_below' w (.cells #[.int .i64 b, .int .i64 t] 28))
  have KB := Lib.hid (Blk.new w #[.int .i64 b, .int .i64 t] 28)
  have HZ := Lib.hid (fun W (hW : Below w.heap.size w W) => fresh_ok w 0 0 W hW (by decide) (by decide))
  have HR := Lib.hid hr
  have HL := Lib.hid hr.1
  have hm := hr.2.1
  unfold maxLen at hm
  have c0 := KB.out.cell 0 _ rfl
  have c1 := KB.out.cell 1 _ rfl
  clear hr
  by_cases hv : okN b = true ∧ okN t = true
  rotate_left
  · have HF := Lib.hid (fresh_bad b t (w.alloc (.cells #[.int .i64 b, .int .i64 t] 28)) (by
      cases h1 : okN b with
      | false => exact .inl rfl
      | true =>
        cases h2 : okN t with
        | false => exact .inr rfl
        | true => exact absurd ⟨h1, h2⟩ hv))
    clear hv
    go_enter Try.func4, Try.ntmps4
    go_wp2_with fail
    refine HF.out.mono ?_
    rintro e w1 ⟨rfl, rfl⟩
    go_wp2_with fail
    refine (HZ.out _ HB1.out).mono ?_
    rintro e w2 ⟨g2, r2, rfl, _, hb2, _, _⟩
    have HB2 := Lib.hid (HB1.out.trans (hb2.mono HB1.out.size))
    clear hb2
    go_wp2_with fail
    refine (much_any A n cap l w2 ⟨HR.out.1, HR.out.2.1, fun hp => by
      obtain ⟨b', off, hA, hc⟩ := HR.out.2.2.1 hp
      exact ⟨b', off, hA, fun i h j hj => by
        have h1 := hc i h j hj
        have h2 : (l[i].cells[j]?).isSome = true := by rw [List.getElem?_eq_getElem (by show j < 4; exact hj)]; rfl
        obtain ⟨v, hv⟩ := Option.isSome_iff_exists.1 h2
        rw [hv] at h1 ⊢
        exact (HB2.out.cell (lt_of_cell h1)).trans h1⟩, fun a ha => (HR.out.2.2.2 a ha).below HB2.out⟩).mono ?_
    rintro e w3 ⟨mb, rfl, rfl, _⟩
    cases mb
    all_goals
      go_wp2
      go_ret
      exact ⟨rfl, HB2.out⟩
  have HF := Lib.hid (fresh_ok w b t (w.alloc (.cells #[.int .i64 b, .int .i64 t] 28)) HB1.out hv.1 hv.2)
  clear hv
  go_enter Try.func4, Try.ntmps4
  go_wp2_with fail
  refine HF.out.mono ?_
  rintro e w1 ⟨g, r, rfl, hp, hb1, _, _⟩
  have HP := Lib.hid hp
  have HBB := Lib.hid (HB1.out.trans (hb1.mono HB1.out.size))
  clear hp hb1
  go_wp2_with fail
  refine (HZ.out _ HBB.out).mono ?_
  rintro e w2 ⟨g2, r2, rfl, _, hb2, _, _⟩
  have HB2 := Lib.hid (HBB.out.trans (hb2.mono HBB.out.size))
  have HP2 := Lib.hid (HP.out.below hb2)
  clear hb2
  go_wp2_with fail
  refine (much_any A n cap l w2 ⟨HR.out.1, HR.out.2.1, fun hp => by
      obtain ⟨b', off, hA, hc⟩ := HR.out.2.2.1 hp
      exact ⟨b', off, hA, fun i h j hj => by
        have h1 := hc i h j hj
        have h2 : (l[i].cells[j]?).isSome = true := by rw [List.getElem?_eq_getElem (by show j < 4; exact hj)]; rfl
        obtain ⟨v, hv⟩ := Option.isSome_iff_exists.1 h2
        rw [hv] at h1 ⊢
        exact (HB2.out.cell (lt_of_cell h1)).trans h1⟩, fun a ha => (HR.out.2.2.2 a ha).below HB2.out⟩).mono ?_
  rintro e w3 ⟨mb, rfl, rfl, hmu⟩
  cases mb with
  | true =>
    go_wp2
    go_ret
    exact ⟨rfl, HB2.out⟩
  | false =>
  have HMU := Lib.hid (hmu rfl)
  clear hmu
  go_wp2_with fail
  go_loopw [12, 13, 14] (fun iv _ _ wr => ∃ (i : Nat) (s : St) (v : Value) (xs : List EA) (rv : Value) (rs : List EA), i ≤ n ∧ i ≤ 100 ∧ iv = .int .i64 i ∧ Pr w wr g v s xs r rv s rs ∧ xs.length ≤ sumN (l.take i) ∧ Below w.heap.size w wr) (fun iv _ _ _ => 100 - (intOf iv).toNat)
  case atStart => exact ⟨0, _, _, _, _, _, Nat.zero_le _, by omega, rfl, HP2.out, by simp, HB2.out⟩
  case round =>
    obtain ⟨i, s, v, xs, rv, rs, hin, hi1, rfl, hp, hxs, hbr⟩ := hrel
    have HPR := Lib.hid hp
    have HXS := Lib.hid hxs
    have HBR := Lib.hid hbr
    clear hp hxs hbr
    by_cases h1 : i < n
    rotate_left
    · go_wp2
      go_ret
      exact ⟨rfl, HBR.out⟩
    by_cases h2 : i < 100
    rotate_left
    · go_wp2
      go_ret
      exact ⟨rfl, HBR.out⟩
    have hil : i < l.length := by have := HL.out; omega
    obtain ⟨zb, off, rfl, hc⟩ := HR.out.at4 HBR.out i hil
    have q0 := hc 0 (.int .i64 l[i].d) (by omega) rfl
    have q1 := hc 1 (.int .i64 l[i].i) (by omega) rfl
    have q2 := hc 2 (.int .i64 l[i].t) (by omega) rfl
    have q3 := hc 3 (.slice l[i].A l[i].n l[i].c) (by omega) rfl
    obtain ⟨f1, f2, f3⟩ := few_at HMU.out i hil h2
    have HF1 := Lib.hid f1
    have hxl : xs.length ≤ 5000 := by have := HXS.out; omega
    have HXO := Lib.hid (HR.out.2.2.2 _ (List.getElem_mem hil))
    clear hc f1
    generalize l[i] = x at *
    have HDO := Lib.hid (do_any w g v s xs r rv rs x wr HPR.out HXO.out (by omega) (by omega))
    have HXL := Lib.hid HXO.out.rd.len
    unfold stpV at HDO
    have k0 : (0 : Int) ≤ (i : Int) := by omega
    have k1 : (i : Int) < (n : Int) := by omega
    have k2 : (i : Int) < 100 := by omega
    rw [Nat.add_zero] at q0
    go_wp2_with fail
    refine HDO.out.mono ?_
    rintro e w4 ⟨rfl, v', xs', rv', rs', hp4, hf4⟩
    have HP4 := Lib.hid hp4
    have HXS4 := Lib.hid (len_do HPR.out.im hp4.im HXL.out)
    have HB4 := Lib.hid hp4.rm.old
    clear hp4 hf4
    have HAL := Lib.hid (alike_any w g v' (stDo x s) xs' r rv' rs' w4 HP4.out (by have := HXS4.out; omega))
    go_wp2_with fail
    refine HAL.out.mono ?_
    rintro e w5 ⟨rfl, hb5⟩
    have HP5 := Lib.hid (HP4.out.below hb5)
    clear hb5
    go_wp2
    go_roundw
    case rel => exact ⟨i + 1, stDo x s, v', xs', rv', rs', by omega, by omega, by go_num, HP5.out, by rw [HF1.out]; have := HXS4.out; have := HXS.out; omega, HP5.out.rm.old⟩
    case measure => simp [intOf]; omega
end Go.Proofs.Ytafjgaapefhggaa.Rg
