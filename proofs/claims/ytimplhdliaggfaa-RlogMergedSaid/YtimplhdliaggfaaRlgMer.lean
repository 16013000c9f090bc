/-
  Layer 8: RlogMerged. Conditions: the arguments can be read; the steps' slice is as long as its reach allows.
-/
import Derived.Test.YtimplhdliaggfaaRlgStp
import Derived.Test.YtimplhdliaggfaaRlgCpt
import Derived.Test.YtimplhdliaggfaaRlgMgd
import Derived.Test.YtimplhdliaggfaaRlgG
import Derived.Deep.RegionHeld3
import Derived.Deep.CutRange
import Derived.BigQuiet
namespace Go.Proofs.Ytimplhdliaggfaa.Rg
open Go.RowKit Go.Proofs.Ytimplhdliaggfaa.Fld
set_option linter.unusedVariables false

theorem empty_row {W : World} {B lo : Nat} (h : Blk W B #[] 33) (hlo : lo ≤ B) : W.ownsRow lo 33 4 (.slice (some ⟨B, 0, none⟩) 0 0) 0 [] :=
  ⟨rfl, .inr ⟨B, 0, #[], rfl, hlo, h, Nat.le_refl _, by unfold maxLen; omega, rfl, rfl⟩⟩
theorem one_step {W : World} {B : Nat} {x : Stp} (h : Blk W B #[.int .i64 x.d, .int .i64 x.i, .int .i64 x.t, .slice x.A x.n x.c] 33) (hx : x.Ok W) : RdSt W (some ⟨B, 0, none⟩) 1 [x] := by
  refine ⟨rfl, by unfold maxLen; omega, fun _ => ⟨B, 0, rfl, fun i hi j hj => ?_⟩, fun a ha => by rw [List.mem_singleton] at ha; rw [ha]; exact hx⟩
  obtain rfl : i = 0 := by simpa using hi
  have e : (#[Value.int .i64 x.d, .int .i64 x.i, .int .i64 x.t, .slice x.A x.n x.c])[j]? = x.cells[j]? := by
    rw [← Array.getElem?_toList]
    rfl
  have h2 : (x.cells[j]?).isSome = true := by rw [List.getElem?_eq_getElem (by show j < 4; exact hj)]; rfl
  obtain ⟨v, hv⟩ := Option.isSome_iff_exists.1 h2
  simp only [List.getElem_cons_zero, Nat.zero_mul, Nat.zero_add]
  rw [hv]
  exact h.cell j v (by rw [e, hv])
theorem row_belowS {w w' : World} {lo n : Nat} {v : Value} {xs : List Value} (h : w.ownsRow lo 33 4 v n xs) (hb : Below w.heap.size w w') : w'.ownsRow lo 33 4 v n xs := row_of h (fun i hi => hb.block i (row_lo h i hi).2)
theorem grown_below {w2 w w' : World} {v : Value} {n : Nat} {xs : List Value} (hb : Below w2.heap.size w2 w) (h : w.ownsRow w2.heap.size 33 4 v n xs) (hg : w.grownBy w' v.ownBlock) : Below w2.heap.size w2 w' := hb.grown hg hb.size (fun r hr => (row_lo h r hr).1)
theorem grown_blk {w w' : World} {v : Value} {X : Nat} {cs : Array Value} {ty : TypeId} (hg : w.grownBy w' v.ownBlock) (h : Blk w X cs ty) (hne : v.ownBlock ≠ some X) : Blk w' X cs ty := (hg.block X h.lt (Ne.symm hne)).trans h
set_option maxRecDepth 100000 in
set_option maxHeartbeats 6400000 in
theorem merged_walk (A : Option Addr) (n cap : Nat) (l : List Stp) (s0 : Stp) (w : World) (hr : RdSt w A n l) (hA : A = none → cap = 0) (hbn : (n + 1) * 48 ≤ 140737488355328) (hs0 : s0.Ok w) : Calls Try.prog 4 #[.slice A n cap, stpV s0] w fun e w' => e = .returned (.bool true) ∧ Below w.heap.size w w' := by
  obtain ⟨d0, i0, t0, SA, sn, sc, sls⟩ := s0
  have HSO := Lib.hid hs0
  have HBX := Lib.hid (alloc_below' w (.cells #[.int .i64 d0, .int .i64 i0, .int .i64 t0, .slice SA sn sc] 33))
  have HKX := Lib.hid (Blk.new w #[.int .i64 d0, .int .i64 i0, .int .i64 t0, .slice SA sn sc] 33)
  have HZ := Lib.hid (fresh_ok (w.alloc (.cells #[.int .i64 d0, .int .i64 i0, .int .i64 t0, .slice SA sn sc] 33)) 0 0 _ (Below.refl _ _) (by decide) (by decide))
  have HR := Lib.hid hr
  have HL := Lib.hid hr.1
  have HA := Lib.hid hA
  have HBN := Lib.hid (show (0 + n) * 48 ≤ 140737488355328 by omega)
  have HBM := Lib.hid hbn
  have hm := hr.2.1
  have hsn := hs0.rd.most
  unfold maxLen at hm hsn
  have hsl : sls.length = sn := hs0.rd.len
  have HSL := Lib.hid hsl
  simp only at hsn
  clear hr hA hs0 hsl
  unfold stpV
  simp only
  go_enter Try.func4, Try.ntmps4
  go_wp2_with fail
  refine HZ.out.mono ?_
  rintro e w2 ⟨g, r, rfl, hp, hb2, _, _⟩
  have HP2 := Lib.hid hp
  have HB2 := Lib.hid (HBX.out.trans (hb2.mono HBX.out.size))
  have HK2 := Lib.hid (HKX.out.below hb2)
  clear hp hb2
  have HCE := Lib.hid (fun W (hW : Below w2.heap.size w2 W) => show W.cell? ⟨w.heap.size, 0, none⟩ = some (.int .i64 d0) ∧ W.cell? ⟨w.heap.size, 1, none⟩ = some (.int .i64 i0) ∧ W.cell? ⟨w.heap.size, 2, none⟩ = some (.int .i64 t0) ∧ W.cell? ⟨w.heap.size, 3, none⟩ = some (.slice SA sn sc) from ⟨(HK2.out.below hW).cell 0 _ rfl, (HK2.out.below hW).cell 1 _ rfl, (HK2.out.below hW).cell 2 _ rfl, (HK2.out.below hW).cell 3 _ rfl⟩)
  have HOK := Lib.hid (fun W (hW : Below w2.heap.size w2 W) => show ∀ a ∈ l ++ [(⟨d0, i0, t0, SA, sn, sc, sls⟩ : Stp)], a.Ok W from fun a ha => by
    have hb := HB2.out.trans (hW.mono HB2.out.size)
    rcases List.mem_append.1 ha with h | h
    · exact (HR.out.2.2.2 a h).below hb
    · rw [List.mem_singleton] at h
      rw [h]
      exact HSO.out.below hb)
  have EX1 := Lib.hid (show Blk (w2.drew.alloc (.cells #[] 33)) w2.heap.size #[] 33 ∧ Below w2.heap.size w2 (w2.drew.alloc (.cells #[] 33)) from ⟨Blk.new w2.drew _ _, (Below.refl _ w2).drew.alloc (Nat.le_refl _) _⟩)
  have EX2 := Lib.hid (show Blk ((w2.drew.alloc (.cells #[] 33)).alloc (.cells #[.int .i64 d0, .int .i64 i0, .int .i64 t0, .slice SA sn sc] 33)) w2.heap.size #[] 33 ∧ Blk ((w2.drew.alloc (.cells #[] 33)).alloc (.cells #[.int .i64 d0, .int .i64 i0, .int .i64 t0, .slice SA sn sc] 33)) (w2.heap.size + 1) #[.int .i64 d0, .int .i64 i0, .int .i64 t0, .slice SA sn sc] 33 ∧ Below w2.heap.size w2 ((w2.drew.alloc (.cells #[] 33)).alloc (.cells #[.int .i64 d0, .int .i64 i0, .int .i64 t0, .slice SA sn sc] 33)) from ⟨EX1.out.1.past _, by have := Blk.new (w2.drew.alloc (.cells #[] 33)) #[.int .i64 d0, .int .i64 i0, .int .i64 t0, .slice SA sn sc] 33; rwa [show (w2.drew.alloc (.cells #[] 33)).heap.size = w2.heap.size + 1 by simp] at this, EX1.out.2.alloc EX1.out.2.size _⟩)
  have EX3 := Lib.hid (show Blk ((w2.drew.alloc (.cells #[.int .i64 d0, .int .i64 i0, .int .i64 t0, .slice SA sn sc] 33)).alloc (.cells #[] 33)) (w2.heap.size + 1) #[] 33 ∧ Blk ((w2.drew.alloc (.cells #[.int .i64 d0, .int .i64 i0, .int .i64 t0, .slice SA sn sc] 33)).alloc (.cells #[] 33)) w2.heap.size #[.int .i64 d0, .int .i64 i0, .int .i64 t0, .slice SA sn sc] 33 ∧ Below w2.heap.size w2 ((w2.drew.alloc (.cells #[.int .i64 d0, .int .i64 i0, .int .i64 t0, .slice SA sn sc] 33)).alloc (.cells #[] 33)) from ⟨by have := Blk.new (w2.drew.alloc (.cells #[.int .i64 d0, .int .i64 i0, .int .i64 t0, .slice SA sn sc] 33)) #[] 33; rwa [show (w2.drew.alloc (.cells #[.int .i64 d0, .int .i64 i0, .int .i64 t0, .slice SA sn sc] 33)).heap.size = w2.heap.size + 1 by simp] at this, (Blk.new w2.drew #[.int .i64 d0, .int .i64 i0, .int .i64 t0, .slice SA sn sc] 33).past _, ((Below.refl _ w2).drew.alloc (Nat.le_refl _) _).alloc (by simp) _⟩)
  obtain ⟨q0, q1, q2, q3⟩ := HCE.out w2 (Below.refl _ _)
  go_upto_region 2 with fail
  go_cut [8] from 23 to 155 (fun mv wx => ∃ b : Bool, mv = .bool b ∧ Below w2.heap.size w2 wx ∧ (b = false → ∀ k, k ≤ (l ++ [(⟨d0, i0, t0, SA, sn, sc, sls⟩ : Stp)]).length → k ≤ 100 → sumN ((l ++ [(⟨d0, i0, t0, SA, sn, sc, sls⟩ : Stp)]).take k) ≤ 5000))
  case first =>
    go_region_held3 (fun w' => w'.cell? ⟨w.heap.size, 0, none⟩ = some (.int .i64 d0) ∧ w'.cell? ⟨w.heap.size, 1, none⟩ = some (.int .i64 i0) ∧ w'.cell? ⟨w.heap.size, 2, none⟩ = some (.int .i64 t0) ∧ w'.cell? ⟨w.heap.size, 3, none⟩ = some (.slice SA sn sc)) (first | exact ⟨by assumption, by assumption, by assumption, by assumption⟩ | go_keep) (first
      | (refine step_append_rowS rfl _ _ rfl w2.heap.size (.slice (some ⟨w2.heap.size, 0, none⟩) 0 0) 0 [] rfl (empty_row EX1.out.1 (by omega)) A n cap l rfl (HR.out.below (HB2.out.trans ((EX1.out.2).mono HB2.out.size))) HA.out HBN.out (by have := (EX1.out.2).size; exact this) ?_; intro v5 w5 hr5 hg5 ha5; rw [Nat.zero_add, List.nil_append] at hr5; have HR5 := Lib.hid hr5; have HB5 := Lib.hid (grown_below EX1.out.2 (empty_row EX1.out.1 (by omega)) hg5); have HX5 := Lib.hid (show Below w5.heap.size w5 (w5.alloc (.cells #[.int .i64 d0, .int .i64 i0, .int .i64 t0, .slice SA sn sc] 33)) from alloc_below' _ _); obtain ⟨q0, q1, q2, q3⟩ := HCE.out _ HB5.out; clear hr5 hg5 ha5)
      | (refine step_append_rowS rfl _ _ rfl w2.heap.size (.slice (some ⟨w2.heap.size, 0, none⟩) 0 0) 0 [] rfl (empty_row EX2.out.1 (by omega)) A n cap l rfl (HR.out.below (HB2.out.trans ((EX2.out.2.2).mono HB2.out.size))) HA.out HBN.out (by have := (EX2.out.2.2).size; exact this) ?_; intro v5 w5 hr5 hg5 ha5; rw [Nat.zero_add, List.nil_append] at hr5; have HR5 := Lib.hid hr5; have HB5 := Lib.hid (grown_below EX2.out.2.2 (empty_row EX2.out.1 (by omega)) hg5); have HX5 := Lib.hid (show Blk w5 (w2.heap.size + 1) #[.int .i64 d0, .int .i64 i0, .int .i64 t0, .slice SA sn sc] 33 from grown_blk hg5 EX2.out.2.1 (by simp [Value.ownBlock])); obtain ⟨q0, q1, q2, q3⟩ := HCE.out _ HB5.out; clear hr5 hg5 ha5)
      | (refine step_append_rowS rfl _ _ rfl w2.heap.size (.slice (some ⟨w2.heap.size + 1, 0, none⟩) 0 0) 0 [] rfl (empty_row EX3.out.1 (by omega)) A n cap l rfl (HR.out.below (HB2.out.trans ((EX3.out.2.2).mono HB2.out.size))) HA.out HBN.out (by have := (EX3.out.2.2).size; exact this) ?_; intro v5 w5 hr5 hg5 ha5; rw [Nat.zero_add, List.nil_append] at hr5; have HR5 := Lib.hid hr5; have HB5 := Lib.hid (grown_below EX3.out.2.2 (empty_row EX3.out.1 (by omega)) hg5); have HX5 := Lib.hid (show Blk w5 w2.heap.size #[.int .i64 d0, .int .i64 i0, .int .i64 t0, .slice SA sn sc] 33 from grown_blk hg5 EX3.out.2.1 (by simp [Value.ownBlock])); obtain ⟨q0, q1, q2, q3⟩ := HCE.out _ HB5.out; clear hr5 hg5 ha5)
      | (refine step_append_rowS rfl _ _ rfl w2.heap.size v5 n (rowS l) rfl (row_belowS HR5.out HX5.out) (some ⟨w5.heap.size, 0, none⟩) 1 1 [⟨d0, i0, t0, SA, sn, sc, sls⟩] rfl (one_step (x := ⟨d0, i0, t0, SA, sn, sc, sls⟩) (Blk.new w5 #[.int .i64 d0, .int .i64 i0, .int .i64 t0, .slice SA sn sc] 33) (HSO.out.below (HB2.out.trans ((HB5.out.trans (HX5.out.mono HB5.out.size)).mono HB2.out.size)))) (fun h => by cases h) HBM.out (HB5.out.trans (HX5.out.mono HB5.out.size)).size ?_; intro v6 w6 hr6 hg6 ha6; obtain ⟨A6, c6, hv6, _⟩ := row_slice hr6; subst hv6; have HR6 := Lib.hid hr6; have HB6 := Lib.hid (grown_below (HB5.out.trans (HX5.out.mono HB5.out.size)) (row_belowS HR5.out HX5.out) hg6); obtain ⟨q0, q1, q2, q3⟩ := HCE.out _ HB6.out; clear hr6 hg6 ha6)
      | (refine step_append_rowS rfl _ _ rfl w2.heap.size v5 n (rowS l) rfl HR5.out (some ⟨w2.heap.size + 1, 0, none⟩) 1 1 [⟨d0, i0, t0, SA, sn, sc, sls⟩] rfl (one_step (x := ⟨d0, i0, t0, SA, sn, sc, sls⟩) HX5.out (HSO.out.below (HB2.out.trans (HB5.out.mono HB2.out.size)))) (fun h => by cases h) HBM.out HB5.out.size ?_; intro v6 w6 hr6 hg6 ha6; obtain ⟨A6, c6, hv6, _⟩ := row_slice hr6; subst hv6; have HR6 := Lib.hid hr6; have HB6 := Lib.hid (grown_below HB5.out HR5.out hg6); obtain ⟨q0, q1, q2, q3⟩ := HCE.out _ HB6.out; clear hr6 hg6 ha6)
      | (refine step_append_rowS rfl _ _ rfl w2.heap.size v5 n (rowS l) rfl HR5.out (some ⟨w2.heap.size, 0, none⟩) 1 1 [⟨d0, i0, t0, SA, sn, sc, sls⟩] rfl (one_step (x := ⟨d0, i0, t0, SA, sn, sc, sls⟩) HX5.out (HSO.out.below (HB2.out.trans (HB5.out.mono HB2.out.size)))) (fun h => by cases h) HBM.out HB5.out.size ?_; intro v6 w6 hr6 hg6 ha6; obtain ⟨A6, c6, hv6, _⟩ := row_slice hr6; subst hv6; have HR6 := Lib.hid hr6; have HB6 := Lib.hid (grown_below HB5.out HR5.out hg6); obtain ⟨q0, q1, q2, q3⟩ := HCE.out _ HB6.out; clear hr6 hg6 ha6)
      | (go_at_call 6; refine (much_any A6 (n + 1) c6 (l ++ [⟨d0, i0, t0, SA, sn, sc, sls⟩]) _ (row_rdS (by rw [rowS_append]; exact HR6.out) (HOK.out _ HB6.out))).mono ?_; rintro e w7 ⟨mb, rfl, rfl, hmu⟩; have HMU := Lib.hid hmu; clear hmu))
    all_goals
      go_wp2_with fail
      go_meet
      exact ⟨mb, rfl, by first | exact HB6.out | exact HB6.out.drew, HMU.out⟩
  case rest =>
    obtain ⟨mb, rfl, hb, hmu⟩ := hcut
    have HBC := Lib.hid hb
    clear hb q0 q1 q2 q3 EX1 EX2 EX3 HOK
    obtain ⟨q0, q1, q2, q3⟩ := HCE.out _ HBC.out
    have HBW := Lib.hid (HB2.out.trans (HBC.out.mono HB2.out.size))
    cases mb with
    | true =>
      go_wp2
      go_ret
      exact ⟨rfl, HBW.out⟩
    | false =>
    have HMU := Lib.hid (show ∀ k, k ≤ l.length → k ≤ 100 → sumN (l.take k) ≤ 5000 from fun k h1 h2 => by
      have := hmu rfl k (by rw [List.length_append]; omega) h2
      rwa [List.take_append_of_le_length h1] at this)
    clear hmu
    by_cases hbig : 1000 < sn
    · have b1 : decide (1000 < (sn : Int)) = true := by simp; omega
      go_wp2
      go_ret
      exact ⟨rfl, HBW.out⟩
    have b1 : decide (1000 < (sn : Int)) = false := by simp; omega
    have HPC := Lib.hid (HP2.out.below HBC.out)
    go_wp2_with fail
    clear q0 q1 q2 q3
    go_loopw [9] (fun iv wr => ∃ (i : Nat) (s : St) (v : Value) (xs : List EA) (rv : Value) (rs : List EA), i ≤ n ∧ i ≤ 100 ∧ iv = .int .i64 i ∧ Pr (w.alloc (.cells #[.int .i64 d0, .int .i64 i0, .int .i64 t0, .slice SA sn sc] 33)) wr g v s xs r rv s rs ∧ xs.length ≤ sumN (l.take i)) (fun iv _ => 100 - (intOf iv).toNat)
    case atStart => exact ⟨0, _, _, _, _, _, Nat.zero_le _, by omega, rfl, HPC.out, by simp⟩
    case round =>
      obtain ⟨i, s, v, xs, rv, rs, hin, hi1', rfl, hp, hxs⟩ := hrel
      have HPR := Lib.hid hp
      have HXS := Lib.hid hxs
      have HBR := Lib.hid hp.rm.old
      have HBWr := Lib.hid (HBX.out.trans (hp.rm.old.mono HBX.out.size))
      clear hp hxs
      have HMM := Lib.hid (sumN_mono l i 100)
      by_cases hgo : i < n ∧ i < 100
      · obtain ⟨h1, h2⟩ := hgo
        have hil : i < l.length := by have := HL.out; omega
        obtain ⟨zb, off, rfl, hc⟩ := HR.out.at4 HBWr.out i hil
        have q0 := hc 0 (.int .i64 l[i].d) (by omega) rfl
        have q1 := hc 1 (.int .i64 l[i].i) (by omega) rfl
        have q2 := hc 2 (.int .i64 l[i].t) (by omega) rfl
        have q3 := hc 3 (.slice l[i].A l[i].n l[i].c) (by omega) rfl
        obtain ⟨f1, f2, f3⟩ := few_at HMU.out i hil h2
        have HF1 := Lib.hid f1
        have hxl : xs.length ≤ 5000 := by have := HXS.out; omega
        have HXO := Lib.hid ((HR.out.2.2.2 _ (List.getElem_mem hil)).below HBX.out)
        clear hc f1
        generalize l[i] = x at *
        have HDO := Lib.hid (do_any (w.alloc (.cells #[.int .i64 d0, .int .i64 i0, .int .i64 t0, .slice SA sn sc] 33)) g v s xs r rv rs x wr HPR.out HXO.out (by omega) (by omega))
        have HXL := Lib.hid HXO.out.rd.len
        unfold stpV at HDO
        have k0 : (0 : Int) ≤ (i : Int) := by omega
        have k1 : (i : Int) < (n : Int) := by omega
        have k2 : (i : Int) < 100 := by omega
        rw [Nat.add_zero] at q0
        go_wp2_with fail
        refine HDO.out.mono ?_
        rintro e w4 ⟨rfl, v', xs', rv', rs', hp4, hf4⟩
        have HP4 := Lib.hid hp4
        have HXS4 := Lib.hid (len_do HPR.out.im hp4.im HXL.out)
        clear hp4 hf4
        go_wp2
        go_roundw
        case rel => exact ⟨i + 1, stDo x s, v', xs', rv', rs', by omega, by omega, by go_num, HP4.out, by rw [HF1.out]; have := HXS4.out; have := HXS.out; omega⟩
        case measure => simp [intOf]; omega
      · have hex : ¬ i < n ∨ (i < n ∧ ¬ i < 100) := by omega
        have hxl : xs.length ≤ 5000 := by
          have h1 := HMU.out i (by have := HL.out; omega) hi1'
          have := HXS.out
          omega
        clear hgo
        have HSR := Lib.hid (HSO.out.rd.below HBX.out)
        have HME := Lib.hid (merge_any (w.alloc (.cells #[.int .i64 d0, .int .i64 i0, .int .i64 t0, .slice SA sn sc] 33)) g s v xs SA sn sc sls i0 t0 wr HPR.out.im HBR.out HSR.out HSO.out.nc HSO.out.cm HSO.out.nil (by omega) (by omega) HSO.out.lo HSO.out.hi)
        have hcode := mrg_code s i0 t0 (ens sls)
        have HAG := Lib.hid (mrg_again (s := s) (l := ens sls) (i := i0) (t := t0))
        have HDL := Lib.hid (show stDo ⟨1, i0, t0, SA, sn, sc, sls⟩ s = (mrg s i0 t0 (ens sls)).2.2 by unfold stDo; simp)
        obtain ⟨rr, hrr⟩ : ∃ rr, mrg s i0 t0 (ens sls) = rr := ⟨_, rfl⟩
        obtain ⟨kk, er, s'⟩ := rr
        rw [hrr] at HME hcode HAG HDL
        simp only at hcode HAG HDL
        clear hrr
        have q0 := (HKX.out.below HBR.out).cell 0 (.int .i64 d0) rfl
        have q1 := (HKX.out.below HBR.out).cell 1 (.int .i64 i0) rfl
        have q2 := (HKX.out.below HBR.out).cell 2 (.int .i64 t0) rfl
        have q3 := (HKX.out.below HBR.out).cell 3 (.slice SA sn sc) rfl
        rcases hex with h1 | ⟨h1, h2⟩
        all_goals
          go_wp2_with fail
          refine HME.out.mono ?_
          rintro e w5 ⟨v', xs', rfl, hd⟩
          simp only at hd
          have HP5 := Lib.hid (HPR.out.prog hd)
          have hxn : xs'.length ≤ xs.length + sn := len_do (x := ⟨1, i0, t0, SA, sn, sc, sls⟩) HPR.out.im (by rw [HDL.out]; exact hd.im) HSL.out
          clear hd HME q0 q1 q2 q3
          have HB5 := Lib.hid HP5.out.rm.old
          have HBF := Lib.hid (HBX.out.trans (HB5.out.mono HBX.out.size))
          by_cases he0 : er = 0
          · subst he0
            obtain ⟨hall, hag⟩ := HAG.out rfl
            have HALL := Lib.hid hall
            have HMA := Lib.hid hag
            clear HAG hcode hall hag
            obtain ⟨ZA, zc, rfl, hLo5, hzc, _⟩ := HP5.out.im.slice
            have HLO5 := Lib.hid hLo5
            have hb0 := HP5.out.im.ok.b0
            have hbl := HP5.out.im.ok.bl
            have hsb : s'.base ≤ 1099511627776 := by unfold St.last at hbl; omega
            clear hLo5
            have HQ5 := Lib.hid (fun W (hS : Still w5 W) => show W.cell? ⟨w.heap.size, 0, none⟩ = some (.int .i64 d0) ∧ W.cell? ⟨w.heap.size, 1, none⟩ = some (.int .i64 i0) ∧ W.cell? ⟨w.heap.size, 2, none⟩ = some (.int .i64 t0) ∧ W.cell? ⟨w.heap.size, 3, none⟩ = some (.slice SA sn sc) from ⟨((HKX.out.below HB5.out).still hS).cell 0 _ rfl, ((HKX.out.below HB5.out).still hS).cell 1 _ rfl, ((HKX.out.below HB5.out).still hS).cell 2 _ rfl, ((HKX.out.below HB5.out).still hS).cell 3 _ rfl⟩)
            obtain ⟨q0, q1, q2, q3⟩ := HQ5.out w5 (Still.refl _)
            go_wp2_with fail
            go_loopw [12] (fun kv wr' => ∃ k : Nat, k ≤ sn ∧ kv = .int .i64 k ∧ Still w5 wr') (fun kv _ => sn - (intOf kv).toNat)
            case atStart => exact ⟨0, Nat.zero_le _, rfl, Still.refl _⟩
            case round =>
              obtain ⟨k, hk, rfl, hst⟩ := hrel
              have HST := Lib.hid hst
              obtain ⟨wo, hwo⟩ : ∃ wo, wo = wr := ⟨_, rfl⟩
              subst hwo
              clear q0 q1 q2 q3
              obtain ⟨q0, q1, q2, q3⟩ := HQ5.out _ hst
              clear hst
              by_cases hlt : k < sn
              · obtain ⟨zb, zo, hza, _⟩ := (HSR.out.below HB5.out).elem k hlt
                subst hza
                have HEL := Lib.hid (fun W (hS : Still w5 W) => show W.cell? ⟨zb, zo + k * 4, none⟩ = some (.int .i64 (sls.getD k ea0).e.idx) ∧ W.cell? ⟨zb, zo + k * 4 + 1, none⟩ = some (.int .i64 (sls.getD k ea0).e.term) from by
                  obtain ⟨b, o, he, g0, g1, _⟩ := ((HSR.out.below HB5.out).still hS).elem k hlt
                  injection he with he
                  injection he with e1 e2
                  subst e1 e2
                  exact ⟨g0, g1⟩)
                have HMEM := Lib.hid (show (sls.getD k ea0).e ∈ ens sls from List.mem_map_of_mem (HSR.out.mem k hlt))
                generalize sls.getD k ea0 = x at *
                obtain ⟨g0, g1⟩ := HEL.out _ HST.out
                have HTE := Lib.hid ((HLO5.out.still HST.out).term_dr x.e.idx)
                have k0 : (0 : Int) ≤ (k : Int) := by omega
                have k1 : (k : Int) < (sn : Int) := by omega
                by_cases hfi : s'.base + 1 ≤ x.e.idx
                · have hh := HALL.out x.e HMEM.out hfi
                  unfold hasB at hh
                  simp only [Bool.and_eq_true, beq_iff_eq] at hh
                  rw [hh.1, hh.2] at HTE
                  have p1 : decide (s'.base + 1 ≤ x.e.idx) = true := by simpa using hfi
                  have p2 : (x.e.term != x.e.term) = false := by simp
                  clear hh
                  go_wp2_with fail
                  refine HTE.out.mono ?_
                  rintro e w6 ⟨rfl, hw6⟩
                  have HS6 := Lib.hid (show Still w5 w6 by obtain ⟨z, rfl⟩ := hw6; exact HST.out.trans (still_drewN _ _))
                  clear hw6 q0 q1 q2 q3 g0 g1
                  obtain ⟨q0, q1, q2, q3⟩ := HQ5.out _ HS6.out
                  obtain ⟨g0, g1⟩ := HEL.out _ HS6.out
                  have HFQ := Lib.hid (fun j => (first_any g s'.base s'.bt s'.com s'.app (.slice ZA xs'.length zc) (w6.drewN j) ((HLO5.out.still (HS6.out.trans (still_drewN _ _))).lb) hb0 hsb).mono (R' := fun e w'' => e = .returned (.int .i64 (s'.base + 1)) ∧ ∃ m, w'' = w6.drewN m) fun _ _ ⟨he, hw⟩ => ⟨he, j, hw.symm⟩)
                  go_wp2_with fail
                  go_quiet ((go_at_call 9; exact HFQ.out _))
                  clear q0 q1 q2 q3 g0 g1
                  go_wp2
                  go_roundw
                  case rel => exact ⟨k + 1, by omega, by go_num, HS6.out.trans (still_drewN _ _)⟩
                  case measure => simp [intOf]; omega
                · have p1 : decide (s'.base + 1 ≤ x.e.idx) = false := by simp; omega
                  generalize termV s' x.e.idx = tv at HTE
                  generalize termB s' x.e.idx = tb at HTE
                  go_wp2_with fail
                  refine HTE.out.mono ?_
                  rintro e w6 ⟨rfl, hw6⟩
                  have HS6 := Lib.hid (show Still w5 w6 by obtain ⟨z, rfl⟩ := hw6; exact HST.out.trans (still_drewN _ _))
                  clear hw6 q0 q1 q2 q3 g0 g1
                  obtain ⟨q0, q1, q2, q3⟩ := HQ5.out _ HS6.out
                  obtain ⟨g0, g1⟩ := HEL.out _ HS6.out
                  have HFQ := Lib.hid (fun j => (first_any g s'.base s'.bt s'.com s'.app (.slice ZA xs'.length zc) (w6.drewN j) ((HLO5.out.still (HS6.out.trans (still_drewN _ _))).lb) hb0 hsb).mono (R' := fun e w'' => e = .returned (.int .i64 (s'.base + 1)) ∧ ∃ m, w'' = w6.drewN m) fun _ _ ⟨he, hw⟩ => ⟨he, j, hw.symm⟩)
                  go_wp2_with fail
                  go_quiet ((go_at_call 9; exact HFQ.out _))
                  clear q0 q1 q2 q3 g0 g1
                  go_wp2
                  go_roundw
                  case rel => exact ⟨k + 1, by omega, by go_num, HS6.out.trans (still_drewN _ _)⟩
                  case measure => simp [intOf]; omega
              · obtain rfl : sn = k := by omega
                have HLA := Lib.hid ((HLO5.out.still HST.out).last_dr)
                go_wp2_with fail
                refine HLA.out.mono ?_
                rintro e w6 ⟨rfl, hw6⟩
                have HS6 := Lib.hid (show Still w5 w6 by obtain ⟨z, rfl⟩ := hw6; exact HST.out.trans (still_drewN _ _))
                clear hw6 q0 q1 q2 q3
                obtain ⟨q0, q1, q2, q3⟩ := HQ5.out _ HS6.out
                have HM2 := Lib.hid (merge_any (w.alloc (.cells #[.int .i64 d0, .int .i64 i0, .int .i64 t0, .slice SA sn sc] 33)) g s' (.slice ZA xs'.length zc) xs' SA sn sc sls i0 t0 w6 (HP5.out.im.still HS6.out) (HB5.out.trans (below_still HS6.out HB5.out.size)) HSR.out HSO.out.nc HSO.out.cm HSO.out.nil (by omega) (by omega) HSO.out.lo HSO.out.hi)
                rw [HMA.out] at HM2
                go_wp2_with fail
                refine HM2.out.mono ?_
                rintro e w7 ⟨v7, xs7, rfl, hd7⟩
                have HP7 := Lib.hid ((HP5.out.still HS6.out).prog hd7)
                clear hd7 q0 q1 q2 q3
                obtain ⟨YA, yc, rfl, hLo7, _⟩ := HP7.out.im.slice
                have HLB := Lib.hid hLo7.last_dr
                clear hLo7
                have p1 : (s'.last == s'.last) = true := by simp
                go_wp2_with fail
                refine HLB.out.mono ?_
                rintro e w8 ⟨rfl, hw8⟩
                have HS8 := Lib.hid (show Still w7 w8 by obtain ⟨z, rfl⟩ := hw8; exact still_drewN _ _)
                clear hw8
                go_wp2
                go_ret
                exact ⟨rfl, HBX.out.trans (((HP7.out.still HS8.out).rm.old).mono HBX.out.size)⟩
          · have hcase : er = 1 ∨ er = 7 ∨ er = 9 := by omega
            clear he0 hcode HAG
            rcases hcase with rfl | rfl | rfl
            all_goals
              go_wp2
              go_ret
              exact ⟨rfl, HBF.out⟩
end Go.Proofs.Ytimplhdliaggfaa.Rg
