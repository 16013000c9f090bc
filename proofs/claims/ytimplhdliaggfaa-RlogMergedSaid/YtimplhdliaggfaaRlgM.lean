/-
  Layer 8: the document's own log: Compact. Conditions: the log lies in memory as it was made.
-/
import Derived.Test.YtimplhdliaggfaaRlgL
namespace Go.Proofs.Ytimplhdliaggfaa.Rg
open Go.RowKit Go.Proofs.Ytimplhdliaggfaa.Fld
set_option linter.unusedVariables false

/-- a row made anew -/
theorem madeE (w : World) (lo : Nat) (hlo : lo ≤ w.heap.size) : (w.alloc (.cells #[] 36)).ownsRow lo 36 4 (.slice (some ⟨w.heap.size, 0, none⟩) 0 0) 0 [] := row_made w lo hlo
theorem row_zero {w : World} {lo q : Nat} {v : Value} {ys : List EA} (h : w.ownsRow lo 36 4 v (0 + q) ([] ++ rowE ys)) : w.ownsRow lo 36 4 v q (rowE ys) := by
  rw [Nat.zero_add, List.nil_append] at h
  exact h
/-- a part of a row, from a place on: where it lies -/
def tailA (A : Option Addr) (cap k : Nat) : Option Addr := match A with
  | none => none
  | some a => some (if cap = k then a else ⟨a.block, a.off + k * 4, none⟩)
theorem RdE.tail' {w : World} {A : Option Addr} {n cap : Nat} {xs : List EA} (h : RdE w A n xs) (hf : ∀ a, A = some a → a.spot = none ∧ a.off = 0) (k : Nat) (hk : k ≤ n) (hc : n ≤ cap) : RdE w (tailA A cap k) (n - k) (xs.drop k) := by
  cases A with
  | none =>
    have hn : n = 0 := by
      rcases Nat.eq_zero_or_pos n with h0 | h0
      · exact h0
      · obtain ⟨b, off, he, _⟩ := h.at' h0; cases he
    subst hn
    obtain rfl : xs = [] := List.eq_nil_of_length_eq_zero h.len
    rw [List.drop_nil, Nat.zero_sub]
    exact RdE.nil _ _
  | some a =>
    obtain ⟨b, off, sp⟩ := a
    obtain ⟨h1, h2⟩ := hf _ rfl
    simp only at h1 h2
    subst h1 h2
    exact h.tail k hk cap hc
set_option maxRecDepth 100000 in
set_option maxHeartbeats 3200000 in
theorem rcompact_any (W0 : World) (g : Nat) (s : St) (v : Value) (xs : List EA) (i : Int) (w : World) (h : Rm W0 w g s v xs) (hx : xs.length ≤ 1000000) : Calls Try.prog 28 #[.pointer (some ⟨g, 0, none⟩), .int .i64 i] w (ChgR W0 w g v (cptC s i) (stCpt s i)) := by
  obtain ⟨A, cap, rfl, hLo, hxc, hcm, hnil, hform⟩ := h.slice
  have HIM := Lib.hid h
  have HLO := Lib.hid hLo
  have HOK := Lib.hid (stCpt_ok h.ok i)
  have hac := h.ok.ac
  have hcl := h.ok.cl
  have hbl := h.ok.bl
  have hb0 := h.ok.b0
  have HN := Lib.hid h.n
  obtain ⟨c0, c1, c2, c3, c4⟩ := h.blk.cells
  clear h hLo
  by_cases h1 : s.base ≤ i
  rotate_left
  · have HC := Lib.hid (show cptC s i = 7 by unfold cptC; rw [if_neg (fun h => h1 h.1)])
    have HS := Lib.hid (show stCpt s i = s by unfold stCpt; rw [if_neg (fun h => h1 h.1)])
    rw [HC.out, HS.out]
    have k1 : i < s.base := by omega
    go_enter Try.func28, Try.ntmps28
    go_wp2
    go_ret
    exact ⟨_, xs, rfl, DoneR.same HIM.out (Below.refl _ _)⟩
  by_cases h2 : i ≤ s.app
  rotate_left
  · have HC := Lib.hid (show cptC s i = 7 by unfold cptC; rw [if_neg (fun h => h2 h.2)])
    have HS := Lib.hid (show stCpt s i = s by unfold stCpt; rw [if_neg (fun h => h2 h.2)])
    rw [HC.out, HS.out]
    have k1 : ¬ i < s.base := by omega
    have k2 : s.app < i := by omega
    go_enter Try.func28, Try.ntmps28
    go_wp2
    go_ret
    exact ⟨_, xs, rfl, DoneR.same HIM.out (Below.refl _ _)⟩
  obtain ⟨k, hk⟩ : ∃ k : Nat, i = s.base + k := ⟨(i - s.base).toNat, by omega⟩
  have hK : (i - s.base).toNat = k := by omega
  have hkn : k ≤ xs.length := by unfold St.last at hcl; rw [HN.out] at hcl; omega
  have HC := Lib.hid (show cptC s i = 0 by unfold cptC; rw [if_pos ⟨h1, h2⟩])
  have HS := Lib.hid (show stCpt s i = { s with base := i, bt := entT s k, es := s.es.drop k } by unfold stCpt; rw [if_pos ⟨h1, h2⟩, hK])
  rw [HC.out]
  rw [HS.out] at HOK ⊢
  have HT := Lib.hid (show termV s i = entT s k by unfold termV; rw [if_pos (by rw [termB_iff]; omega), hK])
  have k1 : ¬ i < s.base := by omega
  have k2 : ¬ s.app < i := by omega
  have HTD := Lib.hid (HLO.out.term_dr i)
  rw [HT.out] at HTD
  have ew : IntKind.i64.wrap (i - s.base) = (k : Int) := by rw [show i - s.base = (k : Int) by omega]; exact wrap_in _ (by omega) (by unfold St.last at hbl; rw [HN.out] at hbl; omega)
  have EW := Lib.hid ew
  clear hk hK ew
  generalize entT s k = T at *
  generalize termB s i = TB at *
  obtain ⟨N, hN⟩ : ∃ N, xs.length = N := ⟨_, rfl⟩
  have HNN := Lib.hid hN
  rw [hN] at hkn hxc hx HLO HIM c2
  rw [hN]
  clear hN HN
  have g0 : (0 : Int) ≤ (k : Int) := by omega
  have g1 : (k : Int) ≤ (N : Int) := by omega
  have g2 : (N : Int) ≤ (cap : Int) := by omega
  have g3 : (k : Int) ≤ (cap : Int) := by omega
  unfold maxLen at hcm
  obtain ⟨SA, hSA⟩ : ∃ SA, tailA A cap k = SA := ⟨_, rfl⟩
  have HSRC := Lib.hid (show ∀ W : World, Below w.heap.size w W → RdE W SA (N - k) (xs.drop k) from fun W hW => by rw [← hSA]; exact ((HLO.out.below hW).rd).tail' hform k hkn hxc)
  have HSN := Lib.hid (show SA = none → cap - k = 0 from fun h => by
    rw [← hSA] at h
    cases A with
    | none => have := hnil rfl; omega
    | some a => cases h)
  have hsl : ∀ W, (Instr.slice 29 (.slice A N cap) (some (.int .i64 (k : Int))) none none).run Try.prog W = .ok (.slice SA (N - k) (cap - k)) W := by
    intro W
    rw [← hSA]
    cases A with
    | none =>
      obtain rfl := hnil rfl
      obtain rfl : N = 0 := by omega
      obtain rfl : k = 0 := by omega
      go_simp
      exact hSA
    | some a =>
      obtain ⟨b, off, sp⟩ := a
      obtain ⟨e1, e2⟩ := hform _ rfl
      simp only at e1 e2
      subst e1 e2
      unfold tailA
      by_cases hcap : cap = k
      · simp only [if_pos hcap]
        subst hcap
        go_simp
      · simp only [if_neg hcap]
        go_simp
  clear hSA
  go_enter Try.func28, Try.ntmps28
  go_wp2_with fail
  refine HTD.out.mono ?_
  rintro e w1 ⟨rfl, hw⟩
  have HS1 := Lib.hid (show Still w w1 by obtain ⟨k, rfl⟩ := hw; exact still_drewN _ _)
  clear hw
  have HI1 := Lib.hid (HIM.out.still HS1.out)
  obtain ⟨d0, d1, d2, d3, d4⟩ := HI1.out.blk.cells
  have HMA := Lib.hid (show ((w1.alloc (.cells #[] 36)).drew).ownsRow W0.heap.size 36 4 (.slice (some ⟨w1.heap.size, 0, none⟩) 0 0) 0 [] from madeE w1 W0.heap.size HI1.out.old.size)
  have HSR := Lib.hid (HSRC.out ((w1.alloc (.cells #[] 36)).drew) (((below_still HS1.out (Nat.le_refl _)).alloc (by rw [HS1.out.1]; exact Nat.le_refl _) _).drew))
  have HOL := Lib.hid ((HI1.out.old.alloc HI1.out.old.size (.cells #[] 36)).drew)
  have HBP := Lib.hid (show Rb ((w1.alloc (.cells #[] 36)).drew) g s.base s.bt (.slice A N cap) s.com s.app from Blk.past HI1.out.blk (.cells #[] 36))
  have a2 : ∀ ob, (w1.alloc ob).cell? ⟨g, 2, none⟩ = some (.slice A N cap) := fun ob => (Blk.past HI1.out.blk ob).cell 2 _ rfl
  have a0 : ∀ ob, (w1.alloc ob).cell? ⟨g, 0, none⟩ = some (.int .i64 s.base) := fun ob => (Blk.past HI1.out.blk ob).cell 0 _ rfl
  go_wp2_with fail
  have ew := EW.out
  go_region_law ((refine step_append_rowE rfl _ _ rfl W0.heap.size (.slice (some ⟨w1.heap.size, 0, none⟩) 0 0) 0 [] rfl HMA.out SA (N - k) (cap - k) (xs.drop k) rfl HSR.out HSN.out (by omega) HOL.out.size ?_; intro v7 w7 hr7 hg7 ha7; obtain ⟨VA, vc, hvv, _⟩ := row_slice hr7; subst hvv; have HR7 := Lib.hid hr7; have HG7 := Lib.hid hg7; have HA7 := Lib.hid ha7; have hl7 := rb_grown HBP.out HMA.out hg7; have HL7 := Lib.hid hl7; obtain ⟨e0, e1, e2, e3, e4⟩ := hl7.cells; have f2 := Blk.free hl7 2; have f0 := Blk.free hl7 0; have f1 := Blk.free hl7 1; clear hr7 hg7 ha7 hl7))
  all_goals
    clear ew
    go_wp2
    go_ret
    have b1 := Blk.set HL7.out 2 (.slice VA (N - k) vc) (by show 2 < 5; omega)
    have b2 := Blk.set b1 0 (.int .i64 i) (by show 0 < 5; omega)
    have b3 := Blk.set b2 1 (.int .i64 T) (by show 1 < 5; omega)
    have hfw : Dk.Fr [] w w7 := (((fr_still HS1.out).alloc _).drew).grown HG7.out (fun j hj => .inr (by cases hj; rw [HS1.out.1]; exact Nat.le_refl _))
    have hfs : Dk.Fr [g] w7 (((w7.setCell ⟨g, 2, none⟩ (.slice VA (N - k) vc)).setCell ⟨g, 0, none⟩ (.int .i64 i)).setCell ⟨g, 1, none⟩ (.int .i64 T)) := ((((Dk.Fr.refl [g] w7).setCell ⟨g, 2, none⟩ (.inl (List.mem_singleton.2 rfl)) _).setCell ⟨g, 0, none⟩ (.inl (List.mem_singleton.2 rfl)) _).setCell ⟨g, 1, none⟩ (.inl (List.mem_singleton.2 rfl)) _)
    have hrow : w7.ownsRow W0.heap.size 36 4 (.slice VA (N - k) vc) (xs.drop k).length (rowE (xs.drop k)) := by
      have h1 := HR7.out
      rw [Nat.zero_add, List.nil_append] at h1
      rw [HSR.out.len]
      exact h1
    refine ⟨.slice VA (N - k) vc, xs.drop k, rfl, ?_, ?_, ?_⟩
    · exact Rm.stored (s' := { s with base := i, bt := T, es := s.es.drop k }) HL7.out b3 (by first | exact hfs | exact hfs.drew) hrow (HIM.out.dat.drop k) (by rw [ens_drop, HIM.out.es]) HIM.out.lo HOK.out (Dk.Fr.to_below HIM.out.old hfw (fun j hj => absurd hj (List.not_mem_nil)))
    · exact (hfw.mono (fun j hj => absurd hj (List.not_mem_nil))).trans (by first | exact hfs | exact hfs.drew) (fun j hj => .inl (by rw [List.mem_singleton.1 hj]; exact List.mem_cons_self ..))
    · intro j hj
      have ha := HA7.out
      rw [Nat.zero_add] at ha
      rcases ha with h | h
      · have h2 := h.symm.trans hj
        cases h2
        exact .inr (by rw [HS1.out.1]; exact Nat.le_refl _)
      · have h2 := h.symm.trans hj
        cases h2
        refine .inr ?_
        show w.heap.size ≤ (w1.alloc _).heap.size
        simp
        rw [HS1.out.1]
        omega
end Go.Proofs.Ytimplhdliaggfaa.Rg
