/-
  What the document's own Scan answers for whatever bytes: the contents that stand in Sc, and how many bytes their records have; and that the law RecordScans answers true. Conditions: the slice's cells can be read.
-/
import Derived.Test.YtejphnbhcabchaaGreatRecCut
namespace Go.Proofs.YtejphnbhcabchaaGreat.Rc
open Go.RowKit
open Fld (Bytes val Rd RdL conv_str str)
set_option linter.unusedVariables false

/-- 's[f:u]' -/
theorem run_mid (b off n cap f u : Nat) (hf : f ≤ u) (hu : u ≤ cap) : ∃ a : Addr, (∀ W : World, (Instr.slice 36 (.slice (some ⟨b, off, none⟩) n cap) (some (.int .i64 (f : Int))) (some (.int .i64 (u : Int))) none).run Tryz.prog W = .ok (.slice (some a) (u - f) (cap - f)) W) ∧ (0 < u - f → a = ⟨b, off + f, none⟩) := by
  by_cases h : cap = f
  · refine ⟨⟨b, off, none⟩, fun W => ?_, fun h' => by omega⟩
    have h1 : ∀ z : Nat, (0 : Int) ≤ (z : Int) := fun z => by omega
    obtain rfl : u = f := by omega
    subst h
    go_simp
  · refine ⟨⟨b, off + f, none⟩, fun W => ?_, fun _ => rfl⟩
    have h1 : (0 : Int) ≤ (f : Int) := by omega
    have h2 : (f : Int) ≤ (u : Int) := by omega
    have h3 : (u : Int) ≤ (cap : Int) := by omega
    go_simp
theorem rd_window {w : World} {b off n : Nat} {zs : List Int} (hr : Rd w (some ⟨b, off, none⟩) n zs) (f v : Nat) (h : f + v ≤ n) (a : Addr) (ha : 0 < v → a = ⟨b, off + f, none⟩) : Rd w (some a) v ((zs.drop f).take v) := by
  rcases Nat.eq_zero_or_pos v with rfl | hv
  · rw [List.take_zero]; exact Fld.Rd.zero w _
  · rw [ha hv]; exact Rd.part hr f v h
/-- a record is told by its own bytes -/
theorem rec_iff (rest : List Int) (hb : Bytes rest) (h8 : 8 ≤ rest.length) (hn : val (rest.take 4) ≤ 65536) (hl : 8 + val (rest.take 4) ≤ rest.length) : recd (body rest) = rest.take (8 + val (rest.take 4)) ↔ isRec rest := by
  have hbl : (body rest).length = val (rest.take 4) := by rw [body, List.length_take, List.length_drop]; omega
  constructor
  · intro h
    have h1 : rest = recd (body rest) ++ rest.drop (8 + val (rest.take 4)) := by rw [h]; exact (List.take_append_drop _ _).symm
    have h2 := first_recd (body rest) (rest.drop (8 + val (rest.take 4))) (by omega)
    rw [← h1] at h2
    by_cases hi : isRec rest
    · exact hi
    · rw [first_none hi] at h2; cases h2
  · intro hi
    have h1 := (isRec_split hb hi).1
    have h2 : (recd (body rest)).length = 8 + val (rest.take 4) := by rw [recd_len, hbl]
    have h3 := congrArg (List.take (8 + val (rest.take 4))) h1
    rw [List.take_append_of_le_length (by omega), List.take_of_length_le (l := recd (body rest)) (by omega)] at h3
    exact h3.symm
/-- append of one slice to a row of slices -/
theorem wpList_append_row {w : World} {ops : Array Oper} {rest : List Oper} {o : Oper} {a : Act} {Q : Exit → Act → World → Prop} (hgd : o.guard = none) (s x : Operand)
    (ho : o.op = .call { callee := .builtin .append, args := #[s, x], argTypes := #[127, 127] })
    (base : Nat) (v : Value) (k : Nat) (vs : List Value) (z : Value) (hs : a.eval s = v) (hown : w.ownsRow base 36 1 v k vs) (g : Nat) (hx : a.eval x = .slice (some ⟨g, 0, none⟩) 1 1) (hc : w.cell? ⟨g, 0, none⟩ = some z) (hz1 : z.oneCell' = true)
    (hk : k + 1 ≤ 1099511627776) (hb : base ≤ w.heap.size)
    (h : ∀ v' w', w'.ownsRow base 36 1 v' (k + 1) (vs ++ [z]) → w.grownBy w' v.ownBlock → (v'.ownBlock = v.ownBlock ∨ v'.ownBlock = some w.heap.size) → wpList Tryz.prog ops Q rest (a.put o.dst v') w') : wpList Tryz.prog ops Q (o :: rest) a w := by
  obtain ⟨i, hi, hz, hsz, hby⟩ := slice_info
  refine wpList_append_own_at w hgd s x _ ho base 36 i _ 1 24 Tryz.underlying127 hi hz hsz hby rfl (by omega) v k vs hs hown ⟨g, 0, none⟩ 1 1 [z] hx rfl ?_ ?_ (by unfold maxLen; omega) (by omega) hb ?_
  · intro j u hu
    rcases j with _ | j
    · simp at hu; subst hu; exact hc
    · simp at hu
  · intro u hu; simp at hu; subst hu; exact hz1
  · intro v' w' h1 h2 _ h4
    exact h v' w' h1 h2 h4
theorem own_drew {W w2 : World} {v : Value} {zs : List Int} (h : Fld.Own W w2 v zs) : Fld.Own W.drew w2 v zs := ⟨⟨h.1.os, h.1.tape, h.1.output, h.1.size, h.1.block⟩, h.2⟩

def RsR (w : World) (zs : List Int) (v a : Value) (wr : World) : Prop := ∃ (ts : List (List Int)) (rest : List Int), a = .int .i64 (((recs ts).length : Nat) : Int) ∧ zs = recs ts ++ rest ∧ Small ts ∧ Rows w wr v ts ∧ Below w.heap.size w wr
def leftOf (n : Nat) (a : Value) : Nat := n + 1 - (intOf a).toNat
set_option maxRecDepth 100000 in
set_option maxHeartbeats 3200000 in
theorem refscan_any (A : Option Addr) (n cap : Nat) (zs : List Int) (w : World) (hs : Sl w A n cap zs) (hn : n ≤ 1099511627776) : Calls Tryz.prog 90 #[.slice A n cap] w (Scanned w zs) := by
  have HS := Lib.hid hs
  have HZ := Lib.hid hs.1.1
  have HBY := Lib.hid hs.1.2.2.1
  have hcn := hs.2.1
  clear hs
  go_enter Tryz.func90, Tryz.ntmps90
  go_wp2_with fail
  go_loopw [4, 5] (fun v a wr => RsR w zs v a wr) (fun _ a _ => leftOf n a)
  case atStart => exact ⟨[], zs, rfl, by simp [recs], small_nil, Rows.nil w w, Below.refl _ _⟩
  case round =>
    obtain ⟨ts, rest, rfl, hz, hsm, hrow, hb⟩ := hrel
    have HE := Lib.hid hz
    have HSM := Lib.hid hsm
    have HROW := Lib.hid hrow
    have HB := Lib.hid hb
    have hpl : (recs ts).length + rest.length = n := by rw [← HZ.out, HE.out, List.length_append]
    have h8 := recs_ge ts
    have HBR := Lib.hid (show Bytes rest by intro c hc; exact HBY.out c (by rw [HE.out]; simp [hc]))
    have HDR := Lib.hid (show rest = zs.drop (recs ts).length by rw [HE.out]; simp)
    clear hz hsm hrow hb
    generalize hP : (recs ts).length = P at *
    have HP := Lib.hid hP
    clear hP
    by_cases hlt : P + 8 ≤ n
    · obtain ⟨b, off, rfl⟩ := sl_addr HS.out (by omega)
      obtain ⟨b', off', hadr, hcell⟩ := (HS.out.1.below HB.out).2.2.2 (by omega)
      injection hadr with hadr
      injection hadr with e1 e2
      subst e1 e2
      have HC := Lib.hid (show ∀ i, i < 4 → wr.cell? ⟨b, off + (P + i), none⟩ = some (.int .u8 (rest.getD i 0)) by
        intro i hi
        rw [hcell (P + i) (by omega), HDR.out, List.getD_eq_getElem?_getD, List.getD_eq_getElem?_getD, List.getElem?_drop])
      clear hcell
      have hlti : (P : Int) + 8 ≤ (n : Int) := by omega
      go_wp2_with fail
      go_loop [6, 7] (fun r i => ∃ k : Nat, k ≤ 4 ∧ i = .int .i64 k ∧ r = .int .i64 ((val (rest.take k) : Nat) : Int)) (fun _ i => 4 - (intOf i).toNat)
      case atStart => exact ⟨0, by omega, rfl, rfl⟩
      case round =>
        obtain ⟨k, hk, rfl, rfl⟩ := hrel
        by_cases hk4 : k < 4
        · have hck := HC.out k hk4
          have hkr : k < rest.length := by omega
          have hbb := Fld.getD_byte HBR.out k hkr
          have hv := Fld.val_lt k (rest.take k) (by rw [List.length_take]; omega) (Fld.bytes_take HBR.out k)
          have hv2 : val (rest.take k) < 16777216 := by
            have : (256 : Nat) ^ k ≤ 256 ^ 3 := Nat.pow_le_pow_right (by omega) (by omega)
            have e : (256 : Nat) ^ 3 = 16777216 := by decide
            omega
          have HN := Lib.hid (show val (rest.take (k + 1)) = val (rest.take k) * 256 + (rest.getD k 0).toNat by
            rw [List.take_succ_eq_append_getElem hkr, Fld.val_snoc, List.getD_eq_getElem?_getD, List.getElem?_eq_getElem hkr]
            rfl)
          clear hv
          generalize val (rest.take k) = a at *
          generalize rest.getD k 0 = c at *
          obtain ⟨c', rfl⟩ : ∃ c' : Nat, c = (c' : Int) := ⟨c.toNat, by omega⟩
          have i1 : (P : Int) + (k : Int) < (n : Int) := by omega
          have i2 : ((P : Int) + (k : Int)).toNat = P + k := by omega
          go_wp2
          go_round
          case rel => exact ⟨k + 1, by omega, by go_num, by rw [HN.out, Int.toNat_natCast]; go_num⟩
          case measure => simp [intOf]; omega
        · obtain rfl : k = 4 := by omega
          clear HC
          have hvl := val_lt4 (rest.take 4) (by rw [List.length_take]; omega) (Fld.bytes_take HBR.out 4)
          generalize hV : val (rest.take 4) = V at *
          have HV := Lib.hid hV
          clear hV
          by_cases c1 : 65536 < V
          · have c1i : (65536 : Int) < (V : Int) := by omega
            go_wp2
            go_ret2
            exact ⟨ts, _, by rw [HP.out]; rfl, ⟨rest, HE.out, HSM.out, first_none (fun h => absurd h.2.1 (by rw [HV.out]; omega))⟩, HROW.out, HB.out⟩
          · have c1i : ¬ (65536 : Int) < (V : Int) := by omega
            by_cases c2 : n < P + 8 + V
            · have c2i : (n : Int) < (P : Int) + 8 + (V : Int) := by omega
              go_wp2
              go_ret2
              exact ⟨ts, _, by rw [HP.out]; rfl, ⟨rest, HE.out, HSM.out, first_none (fun h => absurd h.2.2.1 (by rw [HV.out]; omega))⟩, HROW.out, HB.out⟩
            · have c2i : ¬ (n : Int) < (P : Int) + 8 + (V : Int) := by omega
              obtain ⟨xa, hxr, hxa⟩ := run_mid b off n cap (P + 8) (P + 8 + V) (by omega) (by omega)
              rw [show P + 8 + V - (P + 8) = V by omega] at hxr hxa
              have r2 := run_part b off n cap P (P + 8 + V) (by omega) (by omega) (by omega)
              rw [show P + 8 + V - P = 8 + V by omega] at r2
              have HBX := Lib.hid (show (zs.drop (P + 8)).take V = body rest by rw [body, HV.out, HDR.out, List.drop_drop])
              have HXR := Lib.hid (show Rd wr (some xa) V (body rest) by
                have h := rd_window (HS.out.1.below HB.out) (P + 8) V (by omega) xa hxa
                rw [HBX.out] at h
                exact h)
              have HXS := Lib.hid (show Rd wr (some ⟨b, off + P, none⟩) (8 + V) (rest.take (8 + V)) by
                have h := Rd.part (HS.out.1.below HB.out) P (8 + V) (by omega)
                rw [← HDR.out] at h
                exact h)
              have HIF := Lib.hid (rec_iff rest HBR.out (by omega) (by rw [HV.out]; omega) (by rw [HV.out]; omega))
              rw [HV.out] at HIF
              have HBL := Lib.hid HXR.out.1
              clear hxa
              rw [show ((P + 8 : Nat) : Int) = (P : Int) + 8 by omega, show ((P + 8 + V : Nat) : Int) = (P : Int) + 8 + (V : Int) by omega] at hxr
              rw [show ((P + 8 + V : Nat) : Int) = (P : Int) + 8 + (V : Int) by omega] at r2
              go_wp2_with fail
              clear hxr
              refine (refput_ok (some xa) V (cap - (P + 8)) (body rest) _ HXR.out (fun h => by cases h) (by omega)).mono ?_
              rintro e w2 ⟨v2, rfl, hO2⟩
              obtain ⟨A2, k2, hv2, hs2, _⟩ := hO2.sl (8 + V) (by rw [recd_len, HBL.out])
              subst hv2
              have q1 := fun i => conv_str (hs2.1.drewN i) k2
              have q2 := fun i => conv_str ((HXS.out.below hO2.1).drewN i) (cap - P)
              have HSE := Lib.hid (Fld.str_eq hs2.1.2.2.1 HXS.out.2.2.1)
              have hbn : wr.grownBy w2 none := ⟨hO2.1.os, hO2.1.tape, hO2.1.output, hO2.1.size, fun k hk _ => hO2.1.block k hk⟩
              have HROW2 := Lib.hid (HROW.out.kept hbn (fun r e => by cases e))
              have HB2 := Lib.hid (HB.out.trans (hO2.1.mono HB.out.size))
              have HXR2 := Lib.hid (HXR.out.below hO2.1)
              clear hs2 hO2 hbn
              generalize hs1 : str (recd (body rest)) = s1 at *
              generalize hs2' : str (rest.take (8 + V)) = s2 at *
              clear hs1 hs2'
              by_cases hi : isRec rest
              · have hne : (s1.toList != s2.toList) = false := by
                  have := HSE.out
                  rw [decide_eq_true (HIF.out.2 hi)] at this
                  simp only [bne, this]; rfl
                have heq : (s1.toList == s2.toList) = true := by rw [HSE.out]; exact decide_eq_true (HIF.out.2 hi)
                have HI := Lib.hid hi
                clear hi
                go_wp2_with fail
                go_quiet (fail)
                clear q1 q2 r2
                have HROW3 := Lib.hid (HROW2.out.kept (grown_draws w2 nq) (fun r e => by cases e))
                have HB3 := Lib.hid (below_drew HB2.out nq)
                have HXR3 := Lib.hid (HXR2.out.drewN nq)
                generalize w2.drewN nq = w3 at *
                have HO4 := Lib.hid (Fld.Own.made w3 w3 (Below.refl _ _))
                have HXR4 := Lib.hid (HXR3.out.below HO4.out.1)
                unfold Fld.noneBlk at HO4 HXR4
                obtain ⟨vs, hvs, hve⟩ := HROW3.out
                have HVS := Lib.hid hvs
                have HVE := Lib.hid hve
                clear hvs hve
                go_wp2_with (refine Fld.wpList_append_rd rfl _ _ rfl w3 (.slice (some ⟨w3.heap.size, 0, none⟩) 0 0) [] rfl HO4.out (some xa) V (cap - (P + 8)) (body rest) rfl (fun h => by cases h) HXR4.out (by simp; omega) ?_)
                intro v5 w5 hO5 _ _
                try rw [List.nil_append] at hO5
                obtain ⟨UA, uc, hv5, _, _⟩ := hO5.sl V HBL.out
                subst hv5
                have HO5 := Lib.hid hO5
                clear hO5 HO4 HXR4
                have hw5 : w.heap.size ≤ w5.heap.size := by have h1 := HB3.out.size; have h2 := HO5.out.1.size; omega
                go_wp2_with (refine wpList_append_row rfl _ _ rfl w.heap.size u4 ts.length vs (.slice UA V uc) rfl (row_below (row_below HVS.out HO5.out.1) ((Below.refl _ _).alloc (Nat.le_refl _) _)) w5.heap.size rfl (by simp) rfl (by omega) (by simp; omega) ?_)
                intro v6 w6 hrow6 hg6 hat6
                have HM := Lib.hid (Rows.more HVS.out HVE.out (own_drew HO5.out) HBL.out hrow6 hg6 (by rw [World.size_alloc]; exact hat6))
                have HB6 := Lib.hid (HB3.out.trans (below_move HVS.out HB3.out.size (own_drew HO5.out).1 hg6))
                clear hrow6 hg6 hat6
                have HLN := Lib.hid (show (recs (ts ++ [body rest])).length = P + 8 + V by rw [recs_snoc, List.length_append, HP.out, recd_len, HBL.out]; omega)
                go_wp2
                go_roundw
                case rel => exact ⟨ts ++ [body rest], rest.drop (8 + V), by rw [HLN.out, show ((P + 8 + V : Nat) : Int) = (P : Int) + 8 + (V : Int) by omega], by rw [recs_snoc, List.append_assoc]; have h := (isRec_split HBR.out HI.out).1; rw [HBL.out] at h; rw [← h]; exact HE.out, small_snoc HSM.out (by rw [HBL.out]; omega), HM.out, HB6.out⟩
                case measure => simp [leftOf, intOf]; omega
              · have hne : (s1.toList != s2.toList) = true := by
                  have := HSE.out
                  rw [decide_eq_false (fun h => hi (HIF.out.1 h))] at this
                  simp only [bne, this]; rfl
                have heq : (s1.toList == s2.toList) = false := by rw [HSE.out]; exact decide_eq_false (fun h => hi (HIF.out.1 h))
                go_wp2_with fail
                go_quiet (fail)
                go_wp2
                go_ret2
                exact ⟨ts, _, by rw [HP.out]; rfl, ⟨rest, HE.out, HSM.out, first_none hi⟩, HROW2.out.kept (grown_draws w2 nq) (fun r e => by cases e), below_drew HB2.out nq⟩
    · have hlti : ¬ (P : Int) + 8 ≤ (n : Int) := by omega
      go_wp2
      go_ret2
      exact ⟨ts, _, by rw [HP.out]; rfl, ⟨rest, HE.out, HSM.out, first_none (fun h => absurd h.1 (by omega))⟩, HROW.out, HB.out⟩

end Go.Proofs.YtejphnbhcabchaaGreat.Rc
