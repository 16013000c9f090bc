/-
  Layer 8: replace in the program. Conditions: the log lies in memory as it was made; what comes in lies in older memory.
-/
import Derived.Test.YtnhcbampojpgfaaGreatRlgE
namespace Go.Proofs.YtnhcbampojpgfaaGreat.Rg
open Go.RowKit Go.Proofs.YtnhcbampojpgfaaGreat.Fld
set_option linter.unusedVariables false

set_option maxRecDepth 100000 in
theorem del_same (A : Option Addr) (n cap i : Nat) (w : World) (hi : i ≤ n) (hn : n ≤ cap) (hc : cap ≤ maxLen) (hf : ∀ a, A = some a → a.spot = none ∧ a.off = 0) (hA : A = none → cap = 0) :
    Calls Tryz.prog 162 #[.slice A n cap, .int .i64 (i : Int), .int .i64 (i : Int)] w fun e w' => e = .returned (.slice A n cap) ∧ w = w' := by
  have g1 : (0 : Int) ≤ (i : Int) := by omega
  have g2 : (i : Int) ≤ (n : Int) := by omega
  have g3 : (n : Int) ≤ (cap : Int) := by omega
  unfold maxLen at hc
  cases A with
  | none =>
    obtain rfl := hA rfl
    obtain rfl : n = 0 := by omega
    obtain rfl : i = 0 := by omega
    clear hf hA
    go_enter Tryz.func162, Tryz.ntmps162
    go_wp2
    go_ret
    exact ⟨rfl, rfl⟩
  | some a =>
    obtain ⟨b, off, sp⟩ := a
    obtain ⟨h1, h2⟩ := hf _ rfl
    simp only at h1 h2
    subst h1 h2
    clear hf hA
    have g4 : decide ((i : Int) = (i : Int)) = true := decide_eq_true rfl
    by_cases hni : n = i
    · subst hni
      go_enter Tryz.func162, Tryz.ntmps162
      go_wp2
      go_ret
      exact ⟨rfl, rfl⟩
    · go_enter Tryz.func162, Tryz.ntmps162
      go_wp2
      go_ret
      exact ⟨rfl, rfl⟩
/-- the last ones are deleted -/
theorem del_tail (lo : Nat) (A : Option Addr) (n cap k : Nat) (xs : List EA) (w : World) (hrow : w.ownsRow lo 68 4 (.slice A n cap) n (rowE xs)) (hk : k ≤ n) :
    Calls Tryz.prog 162 #[.slice A n cap, .int .i64 (k : Int), .int .i64 (n : Int)] w fun e w' => e = .returned (.slice A k cap) ∧ w'.ownsRow lo 68 4 (.slice A k cap) k (rowE (xs.take k)) ∧ Dk.Fr (Value.slice A n cap).ownBlock.toList w w' := by
  obtain ⟨A', cap', he, hf, hn, hc, hnil⟩ := row_slice hrow
  cases he
  have hl : xs.length = n := by have := hrow.1; rw [rowE_len] at this; omega
  by_cases hkn : k = n
  · subst hkn
    refine (del_same A k cap k w (Nat.le_refl _) hn hc hf (fun h => (hnil h).1)).mono ?_
    rintro e w' ⟨rfl, rfl⟩
    exact ⟨rfl, by rw [← hl, List.take_length, hl]; exact hrow, Dk.Fr.refl _ _⟩
  · cases A with
    | none => have := (hnil rfl).2; omega
    | some a =>
      obtain ⟨b, off, sp⟩ := a
      obtain ⟨h1, h2⟩ := hf _ rfl
      simp only at h1 h2
      subst h1 h2
      refine (del_any b n cap k n 0 lo xs w hrow (by omega) (by omega)).mono ?_
      rintro e w' ⟨rfl, h3, h4⟩
      rw [List.drop_eq_nil_of_le (by omega), List.append_nil] at h3
      exact ⟨rfl, h3, h4⟩
theorem fr_drew {S : List Nat} {w w' : World} (h : Dk.Fr S w.drew w') : Dk.Fr S w w' := ⟨h.os, h.tape, h.output, h.size, h.block⟩
theorem own_slice (A : Option Addr) (n n' cap : Nat) : (Value.slice A n cap).ownBlock = (Value.slice A n' cap).ownBlock := by cases A <;> rfl
set_option maxRecDepth 100000 in
set_option maxHeartbeats 3200000 in
theorem replace_any (W0 : World) (g : Nat) (s : St) (v : Value) (xs : List EA) (LA : Option Addr) (m c k : Nat) (ls : List EA) (w : World) (h : Im W0.heap.size w g s v xs) (hb0 : Below W0.heap.size W0 w) (hr : RdE W0 LA m ls) (hA : LA = none → c = 0) (hm0 : 0 < m) (hm : m ≤ 1000000) (hx : xs.length ≤ 1000000) (hd : okL (ens ls) = true) (hi : (ls.getD 0 ea0).e.idx = s.base + 1 + k) (hk : k ≤ xs.length) (ok : ({ s with es := s.es.take k ++ ens ls } : St).Ok) :
    Calls Tryz.prog 269 #[.pointer (some ⟨g, 0, none⟩), .slice LA m c] w fun e w' => e = .returned (.tuple #[]) ∧ ∃ v' xs', Done W0.heap.size w w' g v { s with es := s.es.take k ++ ens ls } v' xs' := by
  obtain ⟨A, cap, rfl, hLo, hxc, hcm, hnil, hform⟩ := h.slice
  obtain ⟨b, off, rfl, q0, _, _, _⟩ := (hr.below hb0).elem 0 hm0
  rw [Nat.zero_mul, Nat.add_zero, hi] at q0
  have hb1 := h.ok.b0
  have hbl := h.ok.bl
  have hbn : s.base + (xs.length : Int) ≤ 1099511627776 := by unfold St.last at hbl; rw [h.n] at hbl; exact hbl
  have hix2 : s.base + 1 + (k : Int) ≤ 1099511627776 := by
    rw [← hi]
    exact ((okE_iff _).1 (okL_mem hd (by rw [← ens_at ls 0 (by have := hr.len; omega), List.getD_eq_getElem?_getD, List.getElem?_eq_getElem (by rw [ens_len]; have := hr.len; omega)]; exact List.getElem_mem _))).2.1
  have ek : s.base + 1 + (k : Int) - s.base - 1 = (k : Int) := by omega
  have HP := Lib.hid (show ∀ W, Still w W → Calls Tryz.prog 90 #[.pointer (some ⟨g, 0, none⟩), .int .i64 (s.base + 1 + (k : Int))] W fun e w' => e = .returned (.int .i64 (k : Int)) ∧ W = w' from fun W hW => by
    have := place_any g s.base s.bt s.com s.app (.slice A xs.length cap) (s.base + 1 + (k : Int)) W (h.blk.still hW) (by omega) (by omega) (by omega) hix2
    rw [ek] at this
    exact this)
  have HDT := Lib.hid (show ∀ W, Still w W → Calls Tryz.prog 162 #[.slice A xs.length cap, .int .i64 (k : Int), .int .i64 (xs.length : Int)] W fun e w' => e = .returned (.slice A k cap) ∧ w'.ownsRow W0.heap.size 68 4 (.slice A k cap) k (rowE (xs.take k)) ∧ Dk.Fr (Value.slice A xs.length cap).ownBlock.toList W w' from fun W hW => del_tail W0.heap.size A xs.length cap k xs W (row_of h.row (fun i _ => by rw [hW.1])) hk)
  have HIM := Lib.hid h
  have HR := Lib.hid hr
  have HB0 := Lib.hid hb0
  have HOK := Lib.hid ok
  have HDL := Lib.hid (show ∀ x ∈ ls, x.e.data.length ≤ 140737488351232 from fun x hx => by
    have := (okE_iff _).1 (okL_mem hd (e := x.e) (by unfold ens; exact List.mem_map_of_mem hx))
    omega)
  have hidx : ∃ ix, s.base + 1 + (k : Int) = ix := ⟨_, rfl⟩
  obtain ⟨ix, hix⟩ := hidx
  rw [hix] at q0 HP hi
  have HI := Lib.hid hi
  have c2 := (HIM.out.blk).cells.2.2.1
  have j0 : (0 : Int) < (m : Int) := by omega
  have j1 : decide (0 < m) = true := decide_eq_true hm0
  clear h hr hb0 ok hLo hform ek hd hi hix
  have HAF := Lib.hid (show ∀ w5, Dk.Fr (Value.slice A xs.length cap).ownBlock.toList w w5 → Lb w5 g s.base s.bt (.slice A xs.length cap) s.com s.app ∧ DatO W0.heap.size w5 (xs.take k) ∧ Below W0.heap.size W0 w5 from fun w5 hf => by
    have h8 : Not8 w (Value.slice A xs.length cap).ownBlock.toList := fun i hi => HIM.out.not8 i (by simp [hi])
    refine ⟨Blk.of HIM.out.blk (hf.block g (Blk.lt HIM.out.blk) (fun hm => ?_)), ((HIM.out.dat.take k).not8 hf h8), Dk.Fr.to_below HB0.out hf (fun i hi => (HIM.out.foot i (by simp [hi])).1)⟩
    simp only [Option.mem_toList] at hm
    exact row_ne HIM.out.row HIM.out.blk (by decide) hm)
  have HQ := Lib.hid (show ∀ w5, Dk.Fr (Value.slice A xs.length cap).ownBlock.toList w w5 → w5.cell? ⟨b, off, none⟩ = some (.int .i64 ix) from fun w5 hf => by
    obtain ⟨b', off', he, h1, _, _, _⟩ := (HR.out.below (HAF.out w5 hf).2.2).elem 0 hm0
    cases he
    rw [Nat.zero_mul, Nat.add_zero, HI.out] at h1
    exact h1)
  have q0' : w.cell? ⟨b, off, none⟩ = some (.int .i64 ix) := q0
  go_enter Tryz.func269, Tryz.ntmps269
  go_wp2_with fail
  go_region_held3 (fun w' => w'.cell? ⟨g, 2, none⟩ = some (.slice A xs.length cap) ∧ w'.cell? ⟨b, off, none⟩ = some (.int .i64 ix)) (first | exact ⟨by assumption, by assumption⟩ | go_keep) (first
    | (go_at_call 90; refine (HP.out _ (by exact (Still.refl w))).mono ?_; rintro e w' ⟨rfl, rfl⟩)
    | (go_at_call 162; refine (HDT.out _ (by exact (Still.refl w))).mono ?_; rintro e w5 ⟨rfl, hr5, hf5⟩; have HR5 := Lib.hid hr5; have HF5 := Lib.hid (fr_drew hf5); have d2 := (HAF.out w5 HF5.out).1.cells.2.2.1; have q5 := HQ.out w5 HF5.out; clear hr5 hf5))
  all_goals
    obtain ⟨hlb5, hd5, hb5⟩ := HAF.out w5 HF5.out
    have HLB5 := Lib.hid hlb5
    have HD5 := Lib.hid hd5
    have HB5 := Lib.hid hb5
    have HCP := Lib.hid (copied_any (some ⟨b, off, none⟩) m c ls w5 (HR.out.below hb5) (fun h => by cases h) hm HDL.out)
    clear hlb5 hd5 hb5
    go_wp2_with (first
      | (go_at_call 91; refine HCP.out.mono ?_; rintro e w6 ⟨v6, ys, rfl, hye, hyr, hyd, hyb⟩; obtain ⟨YA, yc, hv6, _, _, _, hyn⟩ := row_slice hyr; subst hv6; have HYE := Lib.hid hye; have HYR := Lib.hid hyr; have HYD := Lib.hid hyd; have HYN := Lib.hid hyn; have HB6 := Lib.hid hyb; have HR6 := Lib.hid (row_of HR5.out (fun i hi => hyb.block i (row_lo HR5.out i hi).2)); have HLB6 := Lib.hid (Blk.below HLB5.out hyb); have HD6 := Lib.hid (HD5.out.below hyb); clear hye hyr hyd hyn hyb)
      | (at_builtin; refine wpList_append_rowE rfl _ _ rfl W0.heap.size (.slice A k cap) k (rowE (xs.take k)) rfl HR6.out YA m yc ys rfl (row_rdE HYR.out HYD.out.dat) (fun h => (HYN.out h).1) (by omega) (by have := HB5.out.size; have := HB6.out.size; omega) ?_; intro v7 w7 hr7 hg7 ha7; obtain ⟨VA, vc, hvv, _⟩ := row_slice hr7; subst hvv; have HR7 := Lib.hid hr7; have HG7 := Lib.hid hg7; have HA7 := Lib.hid ha7; have hl7 := lb_grown HLB6.out HR6.out hg7; have e2 := hl7.cells.2.2.1; have f2 := Blk.free hl7 2; clear hr7 hg7 ha7 hl7))
    go_end0
    have hyl : ys.length = m := by have := HYE.out; rw [← ens_len, this, ens_len]; exact HR.out.len
    have htl : (xs.take k).length = k := by rw [List.length_take]; omega
    refine ⟨rfl, .slice VA (k + m) vc, xs.take k ++ ys, ?_, ?_, ?_⟩
    · exact appended (s' := { s with es := s.es.take k ++ ens ls }) HLB6.out (by rw [htl]; exact HR6.out) HD6.out (HYD.out.lower HB5.out.size) HG7.out (by rw [htl]; exact HR7.out) hyl (by rw [HYE.out, ens_take, HIM.out.es]) HIM.out.lo HOK.out
    · exact ((HF5.out.mono (fun i hi => by simp [hi])).trans (Dk.Fr.below (S := []) HB6.out) (fun i hi => by simp at hi) |>.grown HG7.out (fun i hi => .inl (mem_foot ((own_slice A xs.length k cap).trans hi)))).setCell _ (.inl (by simp)) _
    · intro i hi
      rcases HA7.out with h | h
      · exact .inl ((own_slice A xs.length k cap).trans (h.symm.trans hi))
      · rw [h] at hi
        cases hi
        exact .inr (Nat.le_trans HF5.out.size HB6.out.size)
end Go.Proofs.YtnhcbampojpgfaaGreat.Rg
