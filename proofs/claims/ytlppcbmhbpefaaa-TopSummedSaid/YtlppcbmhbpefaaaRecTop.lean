/-
  That the law TopSummed answers true and leaves all memory that was there as it was. Conditions: the list can be read.
-/
import Derived.Test.YtlppcbmhbpefaaaRecFirstL
import Derived.Test.YtlppcbmhbpefaaaCrcJoin
namespace Go.Proofs.Ytlppcbmhbpefaaa.Rc
open Go.RowKit
open Fld (Bytes val Rd RdL conv_str str)
set_option linter.unusedVariables false

set_option maxHeartbeats 800000 in
theorem sameall_any (A B : Option Addr) (m c d : Nat) (ls : List (List Int)) (w : World) (hx : RdL w A m ls) (hy : RdL w B m ls) :
    Calls Try.prog 20 #[.slice A m c, .slice B m d] w fun e w' => e = .returned (.bool true) ∧ ∃ k, w' = w.drewN k := by
  have hm := hx.2.1
  unfold maxLen at hm
  have HX := Lib.hid hx
  have HY := Lib.hid hy
  clear hx hy
  have h0 : ((m : Int) != (m : Int)) = false := by simp
  go_enter Try.func20, Try.ntmps20
  go_wp2_with fail
  go_loopw [5] (fun i wr => SameR w m i wr) (fun i _ => m - (intOf i).toNat)
  case atStart => exact ⟨0, 0, by omega, rfl, rfl⟩
  case round =>
    obtain ⟨k, q, hk, rfl, rfl⟩ := hrel
    by_cases hlt : k < m
    · obtain ⟨b1, o1, A1, n1, c1, rfl, g1, r1, _⟩ := rdl_at (rdl_drewN HX.out q) k hlt
      obtain ⟨b2, o2, A2, n2, c2, rfl, g2, r2, _⟩ := rdl_at (rdl_drewN HY.out q) k hlt
      have q1 := fun i => conv_str (r1.drewN i) c1
      have q2 := fun i => conv_str (r2.drewN i) c2
      clear r1 r2
      generalize hw1 : w.drewN q = w1 at *
      have HW1 := Lib.hid hw1
      clear hw1
      have hss : ((str (ls.getD k [])).toList != (str (ls.getD k [])).toList) = false := by simp
      generalize str (ls.getD k []) = s at *
      have j1 : (k : Int) < (m : Int) := by omega
      have j0 : (0 : Int) ≤ (k : Int) := by omega
      go_wp2_with fail
      go_quiet (fail)
      clear q1 q2 g1 g2
      have HW2 := Lib.hid (show w1.drewN nq = w.drewN (q + nq) by rw [← HW1.out, drew_add])
      go_wp2
      go_roundw
      case rel => exact ⟨k + 1, q + nq, by omega, by go_num, HW2.out⟩
      case measure => simp [intOf]; omega
    · obtain rfl : k = m := by omega
      go_wp2
      go_ret
      exact ⟨rfl, q, rfl⟩

def TopR (w : World) (ls : List (List Int)) (M : Nat) (v u i : Value) (wr : World) : Prop := ∃ k : Nat, k ≤ M ∧ i = .int .i64 (k : Int) ∧ u = .int .u32 (Crc.uv (Crc.sumS (recs (ls.take k)))) ∧ Small (ls.take k) ∧ (recs (ls.take k)).length ≤ k * 5008 ∧ Fld.Own w wr v (recs (ls.take k))
set_option maxRecDepth 100000 in
set_option maxHeartbeats 1600000 in
theorem top_walk (A : Option Addr) (M c : Nat) (ls : List (List Int)) (w : World) (hq : RdL w A M ls) :
    Calls Try.prog 10 #[.slice A M c] w fun e w' => e = .returned (.bool true) ∧ Below w.heap.size w w' := by
  have hmM := hq.2.1
  unfold maxLen at hmM
  have HQ := Lib.hid hq
  have HL := Lib.hid hq.1
  clear hq
  have kc := fun (w : World) (C : Array Value) (n c : Nat) => Lib.run_convert_bytes_const (P := Try.prog) w 22 5 C n c Try.underlying22 Try.underlying5
  have hb0 : Below w.heap.size w (w.alloc Crc.nineBlk) := (Below.refl _ _).alloc (Nat.le_refl _) _
  have H1 := Lib.hid (Crc.sum_any _ 9 9 _ _ (Crc.Rd.nine w))
  rw [Crc.nine_sum] at H1
  have HB0 := Lib.hid hb0
  have HQ0 := Lib.hid (HQ.out.below hb0)
  unfold Crc.nineBlk at H1 HB0 HQ0
  clear hb0
  by_cases hbig : 100 < M
  · have hbi : (100 : Int) < (M : Int) := by omega
    go_enter Try.func10, Try.ntmps10
    go_wp2_with fail
    refine H1.out.mono ?_
    rintro e w' ⟨rfl, rfl⟩
    go_wp2
    go_ret
    exact ⟨rfl, HB0.out⟩
  · have hbi : ¬ (100 : Int) < (M : Int) := by omega
    go_enter Try.func10, Try.ntmps10
    go_wp2_with fail
    refine H1.out.mono ?_
    rintro e w' ⟨rfl, rfl⟩
    clear H1 kc
    generalize w.alloc _ = w0 at HB0 HQ0 ⊢
    go_wp2_with fail
    go_loopw [4, 5, 6] (fun v u i wr => TopR w0 ls M v u i wr) (fun _ _ i _ => M - (intOf i).toNat)
    case atStart => exact ⟨0, by omega, rfl, by rw [List.take_zero]; rfl, by rw [List.take_zero]; exact small_nil, by rw [List.take_zero]; simp [recs], by rw [List.take_zero]; exact Fld.Own.nil w0 w0 (Below.refl _ _)⟩
    case round =>
      obtain ⟨k, hk, rfl, rfl, hsm, hre, hO⟩ := hrel
      have HSM := Lib.hid hsm
      have HRE := Lib.hid hre
      have HO := Lib.hid hO
      clear hsm hre hO
      obtain ⟨A5, c5, h5, hs5, _⟩ := HO.out.sl _ rfl
      subst h5
      have HS5 := Lib.hid (Sl.of hs5)
      clear hs5
      generalize hR : (recs (ls.take k)).length = R at *
      have HR := Lib.hid hR
      clear hR
      have hR2 := HRE.out
      by_cases hlt : k < M
      · obtain ⟨b, off, A1, n1, c1, rfl, g1, r1, hA1⟩ := rdl_at (HQ0.out.below HO.out.1) k hlt
        have HR1 := Lib.hid r1
        have HA1 := Lib.hid hA1
        have HN1 := Lib.hid r1.1
        have hM1 := r1.2.1
        unfold maxLen at hM1
        clear r1 hA1
        have HKL := Lib.hid (show k < ls.length by rw [HL.out]; exact hlt)
        by_cases h5 : 5000 < n1
        · go_wp2
          go_ret
          exact ⟨rfl, HB0.out.trans (HO.out.1.mono HB0.out.size)⟩
        · have h5i : ¬ (5000 : Int) < (n1 : Int) := by omega
          go_wp2_with fail
          refine (put_ok A1 n1 c1 _ _ HR1.out HA1.out (by omega)).mono ?_
          rintro e w1 ⟨v1, rfl, hO1⟩
          have HTK := Lib.hid (recs_take ls k HKL.out)
          generalize hT : ls.getD k [] = t at *
          have HT := Lib.hid hT
          clear hT
          have HLN := Lib.hid (show (recd t).length = 8 + n1 by rw [recd_len, HN1.out])
          obtain ⟨A2, c2, hv2, hs2, _⟩ := hO1.sl (8 + n1) HLN.out
          subst hv2
          have HS2 := Lib.hid hs2
          have HOa := Lib.hid (HO.out.below hO1.1)
          have HJ := Lib.hid (Crc.sumS_join (recs (ls.take k)) (recd t))
          rw [← HTK.out, HLN.out] at HJ
          clear hs2 hO1 g1
          go_wp2_with fail
          refine (Crc.sum_any A2 (8 + n1) c2 (recd t) _ (rd_crc HS2.out.1)).mono ?_
          rintro e w1' ⟨rfl, rfl⟩
          go_wp2_with fail
          have HJO := Lib.hid (Crc.join_ok (Crc.sumS (recs (ls.take k))) (Crc.sumS (recd t)) (8 + n1) (by omega) w1)
          rw [← HJ.out, show ((8 + n1 : Nat) : Int) = 8 + (n1 : Int) by omega] at HJO
          refine HJO.out.mono ?_
          rintro e w2 ⟨rfl, hb2⟩
          have HOb := Lib.hid (HOa.out.below hb2)
          have HS2b := Lib.hid (HS2.out.below hb2)
          clear hb2
          go_wp2_with (refine Fld.wpList_append_rd rfl _ _ rfl w0 (.slice A5 R c5) (recs (ls.take k)) rfl HOb.out A2 (8 + n1) c2 (recd t) rfl HS2b.out.2.2.2.1 HS2b.out.1 (by rw [HR.out]; omega) ?_)
          intro v3 w3 hO3 _ _
          rw [← HTK.out] at hO3
          have HO3 := Lib.hid hO3
          clear hO3
          have HLE := Lib.hid (show (recs (ls.take (k + 1))).length = R + (8 + n1) by rw [HTK.out, List.length_append, HR.out, HLN.out])
          have HSS := Lib.hid (show Small (ls.take (k + 1)) by rw [List.take_succ_eq_append_getElem HKL.out]; exact small_snoc HSM.out (by have h1 := HN1.out; have h2 := HT.out; rw [List.getD_eq_getElem?_getD, List.getElem?_eq_getElem HKL.out] at h2; simp at h2; rw [h2]; omega))
          go_wp2
          go_roundw
          case rel => exact ⟨k + 1, by omega, by go_num, rfl, HSS.out, by rw [HLE.out]; omega, HO3.out⟩
          case measure => simp [intOf]; omega
      · obtain rfl : k = M := by omega
        have HTA := Lib.hid (show ls.take k = ls by rw [← HL.out, List.take_length])
        rw [HTA.out]
        rw [HTA.out] at HSM HO HS5 HR
        have HQ5 := Lib.hid (HQ0.out.below HO.out.1)
        go_wp2_with fail
        refine (scan_any A5 R c5 (recs ls) _ HS5.out (by omega)).mono ?_
        rintro e w6 ⟨ts, v, rfl, hsc, hrow, hb6⟩
        obtain rfl := hsc.uniq (Sc.all HSM.out)
        obtain ⟨B, cb, hv, hrd, hcb, hBn⟩ := rows_rdl hrow (by rw [HL.out]; unfold maxLen; omega)
        subst hv
        rw [HR.out]
        rw [HL.out] at hrd
        rw [HL.out]
        have HRD := Lib.hid hrd
        have HQ6 := Lib.hid (HQ5.out.below hb6)
        have HS6 := Lib.hid (HS5.out.below hb6)
        have HB6 := Lib.hid ((HB0.out.trans (HO.out.1.mono HB0.out.size)).trans (hb6.mono (by have h1 := HB0.out.size; have h2 := HO.out.1.size; omega)))
        clear hsc hrow hrd hb6 hBn
        go_wp2_with fail
        refine (sameall_any B A k cb c ts _ HRD.out HQ6.out).mono ?_
        rintro e w7 ⟨rfl, k7, rfl⟩
        go_wp2_with fail
        refine (Crc.sum_any A5 R c5 (recs ts) _ (rd_crc (HS6.out.1.drewN k7))).mono ?_
        rintro e w8 ⟨rfl, hw8⟩
        obtain rfl := hw8
        have e1 : (Crc.uv (Crc.sumS (recs ts)) == Crc.uv (Crc.sumS (recs ts))) = true := by simp
        have e2 : ((R : Int) == (R : Int)) = true := by simp
        go_wp2
        go_ret
        exact ⟨rfl, below_drew HB6.out k7⟩
end Go.Proofs.Ytlppcbmhbpefaaa.Rc
