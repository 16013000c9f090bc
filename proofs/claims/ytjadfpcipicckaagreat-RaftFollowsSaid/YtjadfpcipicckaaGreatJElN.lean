/-
  Several texts in one: Layer 10, in the program: slices.Clone, copied, Hard, Role, Leader, Heard. Conditions: as each theorem states. Layer 10, in the program: New, Join. Conditions: as each theorem states. Layer 8: slices.Delete of entries. Conditions: the entries are a row of a call's own.
-/
import Derived.Test.YtjadfpcipicckaaGreatJElE
import Derived.Lib.LazyBuf
import Derived.Test.YtjadfpcipicckaaGreatJRlgC
namespace Go.Proofs.YtjadfpcipicckaaGreat.El
open Go.RowKit Go.Proofs.YtjadfpcipicckaaGreat.Qu Go.Proofs.YtjadfpcipicckaaGreat.Fld
set_option linter.unusedVariables false

theorem ownI_made (w : World) : OwnI w (w.alloc (.cells #[] 3)) (.slice (some ⟨w.heap.size, 0, none⟩) 0 0) [] :=
  ⟨alloc_below w _, by simp [vI], .inr ⟨w.heap.size, 0, #[], rfl, Nat.le_refl _, heap_alloc_new w _, Nat.le_refl _, by unfold maxLen; omega, rfl, rfl⟩⟩
theorem cloneI_any (A : Option Addr) (n cap : Nat) (l : List Int) (w : World) (hr : RdI w A n l) (hn : n ≤ 1000) : Calls Tryz.prog 80 #[.slice A n cap] w fun e w' => ∃ v, e = .returned v ∧ OwnI w w' v l := by
  have q := fun (w : World) (a : Option Addr) (l c : Nat) => run_eql_slice_nil (P := Tryz.prog) w 24 3 a l c Tryz.underlying24
  cases A with
  | none =>
    obtain ⟨rfl, rfl⟩ := hr.empty
    clear hr
    go_enter Tryz.func80, Tryz.ntmps80
    go_wp2
    go_ret
    exact ⟨_, rfl, OwnI.nil _ _ (Below.refl _ _)⟩
  | some a =>
    have HO := Lib.hid (ownI_made w)
    have HR1 := Lib.hid (hr.below HO.out.1)
    clear hr
    go_enter Tryz.func80, Tryz.ntmps80
    go_wp2_with (at_builtin; refine wpList_append_ints rfl _ _ rfl w _ [] rfl HO.out (some a) n cap l rfl (fun h => by cases h) HR1.out (by simp; omega) ?_; intro v1 w1 hO1 _; have HO2 := Lib.hid hO1; clear hO1)
    go_ret
    exact ⟨_, rfl, HO2.out⟩
/-- a group that shares no memory -/
def CpIs (w : World) (vs ls : List Int) (e : Ending) (w' : World) : Prop := ∃ A1 c1 A2 c2, e = .returned (grpV A1 vs.length c1 A2 ls.length c2) ∧ RdI w' A1 vs.length vs ∧ RdI w' A2 ls.length ls ∧ (∀ a, A1 = some a → w.heap.size ≤ a.block ∧ a.block < w'.heap.size) ∧ (∀ a, A2 = some a → w.heap.size ≤ a.block ∧ a.block < w'.heap.size) ∧ Below w.heap.size w w'
theorem ownI_lt {w0 w : World} {A : Option Addr} {n c : Nat} {l : List Int} (h : OwnI w0 w (.slice A n c) l) : ∀ a, A = some a → w0.heap.size ≤ a.block ∧ a.block < w.heap.size := by
  intro a ha
  rcases h.2.2 with ⟨h1, _⟩ | ⟨g, cap, cur, h1, hg, hh, _⟩
  · cases h1; cases ha
  · cases h1
    cases ha
    exact ⟨hg, (Array.getElem?_eq_some_iff.1 hh).1⟩
set_option maxRecDepth 100000 in
set_option maxHeartbeats 3200000 in
theorem copied_any (VA : Option Addr) (vc : Nat) (vs : List Int) (LA : Option Addr) (lc : Nat) (ls : List Int) (w : World) (hv : RdI w VA vs.length vs) (hl : RdI w LA ls.length ls) (h1 : vs.length ≤ 1000) (h2 : ls.length ≤ 1000) :
    Calls Tryz.prog 40 #[grpV VA vs.length vc LA ls.length lc] w (CpIs w vs ls) := by
  have hb0 : Below w.heap.size w ((w.alloc (.cells #[.slice VA vs.length vc, .slice LA ls.length lc] 26)).alloc (.cells #[.slice none 0 0, .slice none 0 0] 26)) := (alloc_below w _).trans ((alloc_below (w.alloc (.cells #[.slice VA vs.length vc, .slice LA ls.length lc] 26)) _).mono (alloc_below w _).size)
  have hk1 := (Blk.new w #[.slice VA vs.length vc, .slice LA ls.length lc] 26).past (.cells #[.slice none 0 0, .slice none 0 0] 26)
  have hk2 := Blk.new (w.alloc (.cells #[.slice VA vs.length vc, .slice LA ls.length lc] 26)) #[.slice none 0 0, .slice none 0 0] 26
  rw [show (w.alloc (.cells #[.slice VA vs.length vc, .slice LA ls.length lc] 26)).heap.size = w.heap.size + 1 by simp] at hk2
  have HB0 := Lib.hid hb0
  have HK1 := Lib.hid hk1
  have HK2 := Lib.hid hk2
  have c0 := hk1.cell 0 (.slice VA vs.length vc) rfl
  have c1 := hk1.cell 1 (.slice LA ls.length lc) rfl
  have z0 := hk2.cell 0 (.slice none 0 0) rfl
  have z1 := hk2.cell 1 (.slice none 0 0) rfl
  have HV := Lib.hid (fun W (hW : Below w.heap.size w W) => cloneI_any VA vs.length vc vs W (hv.below hW) h1)
  have HL := Lib.hid (fun W (hW : Below w.heap.size w W) => cloneI_any LA ls.length lc ls W (hl.below hW) h2)
  have HN1 := Lib.hid (show vs.length ≤ 1000000 by omega)
  have HN2 := Lib.hid (show ls.length ≤ 1000000 by omega)
  unfold grpV CpIs
  generalize hwb : (w.alloc (.cells #[.slice VA vs.length vc, .slice LA ls.length lc] 26)).alloc (.cells #[.slice none 0 0, .slice none 0 0] 26) = wb at *
  have HDW := Lib.hid (below_d1 wb)
  subst hwb
  clear hb0 hk1 hk2 hv hl
  go_enter Tryz.func40, Tryz.ntmps40
  go_wp2_with fail
  go_region_held3 (fun w' => w'.cell? ⟨w.heap.size, 0, none⟩ = some (.slice VA vs.length vc) ∧ w'.cell? ⟨w.heap.size, 1, none⟩ = some (.slice LA ls.length lc)) (first | exact ⟨by assumption, by assumption⟩ | go_keep) (first
    | (go_at_call 80; have _ := HO1; refine (HL.out _ (by first | exact HB1.out)).mono ?_; rintro e w2 ⟨v2, rfl, hO2⟩; obtain ⟨A2, k2, rfl, hr2, _⟩ := hO2.form (by exact HN2.out); have HO2 := Lib.hid hO2; have HR2 := Lib.hid hr2; have HBB2 := Lib.hid (HBB1.out.trans (hO2.1.mono HBB1.out.size)); have d0 := (HK1.out.below HBB2.out).cell 0 _ rfl; have d1 := (HK1.out.below HBB2.out).cell 1 _ rfl; have y0 := (HK2.out.below HBB2.out).cell 0 _ rfl; have y1 := (HK2.out.below HBB2.out).cell 1 _ rfl; have f0 := Blk.free (HK2.out.below HBB2.out) 0; have f1 := Blk.free (HK2.out.below HBB2.out) 1; clear hO2 hr2)
    | (go_at_call 80; refine (HV.out _ (by exact HB0.out.drew)).mono ?_; rintro e w1 ⟨v1, rfl, hO1⟩; obtain ⟨A1, k1, rfl, hr1, _⟩ := hO1.form (by exact HN1.out); have HO1 := Lib.hid hO1; have HR1 := Lib.hid hr1; have HBB1 := Lib.hid (HDW.out.trans hO1.1); have HB1 := Lib.hid (HB0.out.trans (HBB1.out.mono HB0.out.size)); have c0 := (HK1.out.below HBB1.out).cell 0 _ rfl; have c1 := (HK1.out.below HBB1.out).cell 1 _ rfl; clear hO1 hr1))
  all_goals
    go_wp2
    have hK := HK2.out.below HBB2.out
    have hG := heap_setCell_same _ (w.heap.size + 1) 1 _ _ (.slice A2 ls.length k2) (heap_setCell_same w2 (w.heap.size + 1) 0 _ _ (.slice A1 vs.length k1) hK)
    refine bodyPost_ret (results_cell_row rfl _ _ (w.heap.size + 1) _ #[.slice A1 vs.length k1, .slice A2 ls.length k2] (0, 0) _ rfl hG Tryz.underlying26 rfl (by kernel_rfl)) rfl ?_
    have hf : Dk.Fr [w.heap.size + 1] w2 ((w2.setCell ⟨w.heap.size + 1, 0, none⟩ (.slice A1 vs.length k1)).setCell ⟨w.heap.size + 1, 1, none⟩ (.slice A2 ls.length k2)) := ((Dk.Fr.refl _ _).setCell _ (.inl (by simp)) _).setCell _ (.inl (by simp)) _
    have hs0 : ((w.alloc (.cells #[.slice VA vs.length vc, .slice LA ls.length lc] 26)).alloc (.cells #[.slice none 0 0, .slice none 0 0] 26)).drew.heap.size = w.heap.size + 2 := by show ((w.alloc (.cells #[.slice VA vs.length vc, .slice LA ls.length lc] 26)).alloc (.cells #[.slice none 0 0, .slice none 0 0] 26)).heap.size = _; simp
    have ho1 := ownI_lt HO1.out
    have ho2 := ownI_lt HO2.out
    have hs1 := HO1.out.1.size
    have hs2 := HO2.out.1.size
    have hs3 := hf.size
    refine ⟨A1, k1, A2, k2, rfl, rdI_fr (HR1.out.below HO2.out.1) hf ?_, rdI_fr HR2.out hf ?_, ?_, ?_, Dk.Fr.to_below (HB0.out.trans (HBB2.out.mono HB0.out.size)) hf (by intro i hi; simp at hi; omega)⟩
    · intro a ha hm
      have := ho1 a ha
      simp at hm
      omega
    · intro a ha hm
      have := ho2 a ha
      simp at hm
      omega
    · intro a ha
      have := ho1 a ha
      omega
    · intro a ha
      have := ho2 a ha
      omega
theorem role_any (p : Pl) (s : St) (w : World) (h : Im w p s) : Calls Tryz.prog 13 #[.pointer (some ⟨p.g, 0, none⟩)] w fun e w' => e = .returned (.int .i64 s.role) ∧ w = w' := by
  have c6 := h.blk.cells.2.2.2.2.2.2.1
  clear h
  go_enter Tryz.func13, Tryz.ntmps13
  go_wp2
  go_ret
  exact ⟨rfl, rfl⟩
theorem hard_any (p : Pl) (s : St) (w : World) (h : Im w p s) : Calls Tryz.prog 31 #[.pointer (some ⟨p.g, 0, none⟩)] w fun e w' => e = .returned (.agg #[.int .i64 s.term, .int .i64 s.vote]) ∧ Below w.heap.size w w' := by
  have hal := alloc_below w (.cells #[.int .i64 0, .int .i64 0] 23)
  have hi := h.below hal
  have c2 := hi.blk.cells.2.2.1
  have c3 := hi.blk.cells.2.2.2.1
  have HK := Lib.hid (Blk.new w #[.int .i64 s.term, .int .i64 s.vote] 23)
  have HB := Lib.hid (alloc_below w (.cells #[.int .i64 s.term, .int .i64 s.vote] 23))
  clear h hal hi
  go_enter Tryz.func31, Tryz.ntmps31
  go_wp2
  refine bodyPost_ret (results_cell_row rfl _ _ w.heap.size _ #[.int .i64 s.term, .int .i64 s.vote] (0, 0) _ rfl HK.out Tryz.underlying23 rfl (by kernel_rfl)) rfl ?_
  exact ⟨rfl, HB.out⟩
end Go.Proofs.YtjadfpcipicckaaGreat.El

namespace Go.Proofs.YtjadfpcipicckaaGreat.El
open Go.RowKit Go.Proofs.YtjadfpcipicckaaGreat.Qu Go.Proofs.YtjadfpcipicckaaGreat.Fld
set_option linter.unusedVariables false

def bxN (w : World) (t v : Int) (VA : Option Addr) (vn vc : Nat) (LA : Option Addr) (ln lc : Nat) : World := (w.alloc (.cells #[.int .i64 t, .int .i64 v] 23)).alloc (.cells #[.slice VA vn vc, .slice LA ln lc] 26)
theorem bxN_below (w : World) (t v : Int) (VA : Option Addr) (vn vc : Nat) (LA : Option Addr) (ln lc : Nat) : Below w.heap.size w (bxN w t v VA vn vc LA ln lc) := (alloc_below w _).trans ((alloc_below (w.alloc (.cells #[.int .i64 t, .int .i64 v] 23)) _).mono (alloc_below w _).size)
theorem bxN_blk (w : World) (t v : Int) (VA : Option Addr) (vn vc : Nat) (LA : Option Addr) (ln lc : Nat) : Blk (bxN w t v VA vn vc LA ln lc) w.heap.size #[.int .i64 t, .int .i64 v] 23 ∧ Blk (bxN w t v VA vn vc LA ln lc) (w.heap.size + 1) #[.slice VA vn vc, .slice LA ln lc] 26 := by
  refine ⟨(Blk.new w _ _).past _, ?_⟩
  have := Blk.new (w.alloc (.cells #[.int .i64 t, .int .i64 v] 23)) #[.slice VA vn vc, .slice LA ln lc] 26
  rwa [show (w.alloc (.cells #[.int .i64 t, .int .i64 v] 23)).heap.size = w.heap.size + 1 by simp] at this
set_option maxRecDepth 100000 in
set_option maxHeartbeats 3200000 in
theorem new_bad (id t v pat : Int) (VA : Option Addr) (vc : Nat) (vs : List Int) (LA : Option Addr) (lc : Nat) (ls : List Int) (w : World) (hv : RdI w VA vs.length vs) (hl : RdI w LA ls.length ls) (hn : newOk id t v vs ls pat = false) :
    Calls Tryz.prog 16 #[.int .i64 id, .agg #[.int .i64 t, .int .i64 v], grpV VA vs.length vc LA ls.length lc, .int .i64 pat] w fun e w' => e = .returned (.tuple #[.pointer none, .int .i64 1]) ∧ Below w.heap.size w w' := by
  have hb0 := bxN_below w t v VA vs.length vc LA ls.length lc
  obtain ⟨hk1, hk2⟩ := bxN_blk w t v VA vs.length vc LA ls.length lc
  have HB0 := Lib.hid hb0
  have HBX := Lib.hid (Below.refl (bxN w t v VA vs.length vc LA ls.length lc).heap.size (bxN w t v VA vs.length vc LA ls.length lc))
  have HK := Lib.hid (fun W (hW : Below (bxN w t v VA vs.length vc LA ls.length lc).heap.size (bxN w t v VA vs.length vc LA ls.length lc) W) => And.intro (hk1.below hW) (hk2.below hW))
  have HVN := Lib.hid (fun W => validNode_any id W)
  have HVH := Lib.hid (fun W => validHard_any t v W)
  have HRT := Lib.hid (fun W (hW : Below w.heap.size w W) => right_any VA vs.length vc vs LA ls.length lc ls W (hv.below hW) (hl.below hW))
  have h0 := hk1.cell 0 (.int .i64 t) rfl
  have h1 := hk1.cell 1 (.int .i64 v) rfl
  have g0 := hk2.cell 0 (.slice VA vs.length vc) rfl
  have g1 := hk2.cell 1 (.slice LA ls.length lc) rfl
  unfold newOk at hn
  unfold grpV at HRT ⊢
  unfold bxN at *
  clear hb0 hk1 hk2 hv hl
  cases hid : okNode id with
  | false =>
    rw [hid] at HVN
    clear hn hid
    go_enter Tryz.func16, Tryz.ntmps16
    go_wp2_with (go_at_call 38; refine (HVN.out _).mono ?_; rintro e w' ⟨rfl, rfl⟩)
    go_ret2
    exact ⟨rfl, HB0.out⟩
  | true =>
    rw [hid] at HVN hn
    cases hh : okHard t v with
    | false =>
      rw [hh] at HVH
      clear hn hid hh
      go_enter Tryz.func16, Tryz.ntmps16
      go_wp2_with (first | (go_at_call 38; refine (HVN.out _).mono ?_; rintro e w' ⟨rfl, rfl⟩) | (go_at_call 39; refine (HVH.out _).mono ?_; rintro e w1 ⟨rfl, hb1⟩; have HB1 := Lib.hid (HB0.out.trans (hb1.mono HB0.out.size)); clear hb1))
      go_ret2
      exact ⟨rfl, HB1.out⟩
    | true =>
      rw [hh] at HVH hn
      cases hg : grpOk vs ls with
      | false =>
        rw [hg] at HRT
        clear hn hid hh hg
        go_enter Tryz.func16, Tryz.ntmps16
        go_wp2_with (first | (go_at_call 38; refine (HVN.out _).mono ?_; rintro e w' ⟨rfl, rfl⟩) | (go_at_call 39; refine (HVH.out _).mono ?_; rintro e w1 ⟨rfl, hb1⟩; have HB1 := Lib.hid (HB0.out.trans (hb1.mono HB0.out.size)); obtain ⟨ka, kb⟩ := HK.out w1 hb1; have g0 := kb.cell 0 _ rfl; have g1 := kb.cell 1 _ rfl; clear hb1 ka kb) | (go_at_call 37; refine (HRT.out _ HB1.out).mono ?_; rintro e w2 ⟨rfl, hb2⟩; have HB2 := Lib.hid (HB1.out.trans (hb2.mono HB1.out.size)); clear hb2))
        go_ret2
        exact ⟨rfl, HB2.out⟩
      | true =>
        rw [hg] at HRT hn
        by_cases hp : pat < 1
        · have d1 : decide (pat < 1) = true := decide_eq_true hp
          clear hn hid hh hg hp
          go_enter Tryz.func16, Tryz.ntmps16
          go_wp2_with (first | (go_at_call 38; refine (HVN.out _).mono ?_; rintro e w' ⟨rfl, rfl⟩) | (go_at_call 39; refine (HVH.out _).mono ?_; rintro e w1 ⟨rfl, hb1⟩; have HB1 := Lib.hid (HB0.out.trans (hb1.mono HB0.out.size)); obtain ⟨ka, kb⟩ := HK.out w1 hb1; have g0 := kb.cell 0 _ rfl; have g1 := kb.cell 1 _ rfl; clear hb1 ka kb) | (go_at_call 37; refine (HRT.out _ HB1.out).mono ?_; rintro e w2 ⟨rfl, hb2⟩; have HB2 := Lib.hid (HB1.out.trans (hb2.mono HB1.out.size)); clear hb2))
          go_ret2
          exact ⟨rfl, HB2.out⟩
        · have d1 : decide (pat < 1) = false := decide_eq_false hp
          have d2 : decide (1000 < pat) = true := by
            simp only [Bool.true_and, Bool.and_eq_false_iff, decide_eq_false_iff_not] at hn
            simp
            omega
          clear hn hid hh hg hp
          go_enter Tryz.func16, Tryz.ntmps16
          go_wp2_with (first | (go_at_call 38; refine (HVN.out _).mono ?_; rintro e w' ⟨rfl, rfl⟩) | (go_at_call 39; refine (HVH.out _).mono ?_; rintro e w1 ⟨rfl, hb1⟩; have HB1 := Lib.hid (HB0.out.trans (hb1.mono HB0.out.size)); obtain ⟨ka, kb⟩ := HK.out w1 hb1; have g0 := kb.cell 0 _ rfl; have g1 := kb.cell 1 _ rfl; clear hb1 ka kb) | (go_at_call 37; refine (HRT.out _ HB1.out).mono ?_; rintro e w2 ⟨rfl, hb2⟩; have HB2 := Lib.hid (HB1.out.trans (hb2.mono HB1.out.size)); clear hb2))
          go_ret2
          exact ⟨rfl, HB2.out⟩
/-- a node that was made behind a world -/
structure Made (w w' : World) (p : Pl) (s : St) : Prop where
  im : Im w' p s
  bel : Below w.heap.size w w'
  new : ∀ i ∈ p.all, w.heap.size ≤ i ∧ i < w'.heap.size
theorem made_of {w w3 w4 w5 : World} {id t v pat : Int} {vs ls : List Int} {A1 A2 : Option Addr} {c1 c2 mb : Nat} (hn : newOk id t v vs ls pat = true) (hb : Below w.heap.size w w3) (h34 : Below w3.heap.size w3 w4) (hmb : w3.heap.size ≤ mb) (hm : MapA w4 mb noneA)
    (r1 : RdI w4 A1 vs.length vs) (r2 : RdI w4 A2 ls.length ls) (b1 : ∀ a, A1 = some a → w3.heap.size ≤ a.block ∧ a.block < w4.heap.size) (b2 : ∀ a, A2 = some a → w3.heap.size ≤ a.block ∧ a.block < w4.heap.size) (n1 : ∀ a, A1 = some a → a.block ≠ mb) (n2 : ∀ a, A2 = some a → a.block ≠ mb)
    (hw5 : w5 = w4.alloc (.cells (ndC ⟨w4.heap.size, mb, A1, c1, A2, c2⟩ (st0 id t v vs ls pat)) 90)) : Made w w5 ⟨w4.heap.size, mb, A1, c1, A2, c2⟩ (st0 id t v vs ls pat) := by
  subst hw5
  have hal := alloc_below w4 (.cells (ndC ⟨w4.heap.size, mb, A1, c1, A2, c2⟩ (st0 id t v vs ls pat)) 90)
  have hml := hm.lt
  have h3 := hb.size
  refine ⟨⟨Blk.new w4 _ _, hm.of (hal.block _ hml), r1.below hal, r2.below hal, fun a ha => ?_, fun a ha => ?_, by show w4.heap.size ≠ mb; omega, st0_ok hn⟩, hb.trans ((h34.trans (hal.mono h34.size)).mono hb.size), fun i hi => ?_⟩
  · have := b1 a ha; exact ⟨by show a.block ≠ w4.heap.size; omega, n1 a ha⟩
  · have := b2 a ha; exact ⟨by show a.block ≠ w4.heap.size; omega, n2 a ha⟩
  · have hs : (w4.alloc (.cells (ndC ⟨w4.heap.size, mb, A1, c1, A2, c2⟩ (st0 id t v vs ls pat)) 90)).heap.size = w4.heap.size + 1 := by simp
    rw [hs]
    have h4 := h34.size
    simp only [Pl.all, List.mem_cons, List.mem_append, Option.mem_toList, Option.map_eq_some_iff] at hi
    rcases hi with (rfl | rfl | ⟨a, ha, rfl⟩) | ⟨a, ha, rfl⟩
    · omega
    · omega
    · have := b1 a ha; omega
    · have := b2 a ha; omega
set_option maxRecDepth 100000 in
set_option maxHeartbeats 3200000 in
theorem new_ok (id t v pat : Int) (VA : Option Addr) (vc : Nat) (vs : List Int) (LA : Option Addr) (lc : Nat) (ls : List Int) (w : World) (hv : RdI w VA vs.length vs) (hl : RdI w LA ls.length ls) (hn : newOk id t v vs ls pat = true) :
    Calls Tryz.prog 16 #[.int .i64 id, .agg #[.int .i64 t, .int .i64 v], grpV VA vs.length vc LA ls.length lc, .int .i64 pat] w fun e w' => ∃ p, e = .returned (.tuple #[.pointer (some ⟨p.g, 0, none⟩), .int .i64 0]) ∧ Made w w' p (st0 id t v vs ls pat) := by
  have hb0 := bxN_below w t v VA vs.length vc LA ls.length lc
  obtain ⟨hk1, hk2⟩ := bxN_blk w t v VA vs.length vc LA ls.length lc
  have HB0 := Lib.hid hb0
  have HK := Lib.hid (fun W (hW : Below (bxN w t v VA vs.length vc LA ls.length lc).heap.size (bxN w t v VA vs.length vc LA ls.length lc) W) => And.intro (hk1.below hW) (hk2.below hW))
  have HNO := Lib.hid hn
  have hn' := hn
  simp only [newOk, Bool.and_eq_true, decide_eq_true_eq] at hn'
  obtain ⟨hid, hh, hg, hp1, hp2⟩ := hn'
  have hgl := grp_len hg
  have HVN := Lib.hid (fun W => validNode_any id W)
  have HVH := Lib.hid (fun W => validHard_any t v W)
  have HRT := Lib.hid (fun W (hW : Below w.heap.size w W) => right_any VA vs.length vc vs LA ls.length lc ls W (hv.below hW) (hl.below hW))
  have HCP := Lib.hid (fun W (hW : Below w.heap.size w W) => copied_any VA vc vs LA lc ls W (hv.below hW) (hl.below hW) (by omega) (by omega))
  rw [hid] at HVN
  rw [hh] at HVH
  rw [hg] at HRT
  have d1 : decide (pat < 1) = false := decide_eq_false (by omega)
  have d2 : decide (1000 < pat) = false := decide_eq_false (by omega)
  have h0 := hk1.cell 0 (.int .i64 t) rfl
  have h1 := hk1.cell 1 (.int .i64 v) rfl
  have g0 := hk2.cell 0 (.slice VA vs.length vc) rfl
  have g1 := hk2.cell 1 (.slice LA ls.length lc) rfl
  have hmm := @run_makeMap Tryz.prog
  unfold grpV at HRT HCP ⊢
  unfold CpIs grpV at HCP
  unfold bxN at *
  clear hb0 hk1 hk2 hv hl hn hid hh hg hp1 hp2
  go_enter Tryz.func16, Tryz.ntmps16
  go_wp2_with (first | (go_at_call 38; refine (HVN.out _).mono ?_; rintro e w' ⟨rfl, rfl⟩) | (go_at_call 39; refine (HVH.out _).mono ?_; rintro e w1 ⟨rfl, hb1⟩; have HB1 := Lib.hid (HB0.out.trans (hb1.mono HB0.out.size)); have HX1 := Lib.hid hb1; obtain ⟨ka, kb⟩ := HK.out w1 hb1; have g0 := kb.cell 0 _ rfl; have g1 := kb.cell 1 _ rfl; clear hb1 ka kb) | (go_at_call 37; refine (HRT.out _ HB1.out).mono ?_; rintro e w2 ⟨rfl, hb2⟩; have HB2 := Lib.hid (HB1.out.trans (hb2.mono HB1.out.size)); have HX2 := Lib.hid (HX1.out.trans (hb2.mono HX1.out.size)); obtain ⟨ka, kb⟩ := HK.out w2 HX2.out; have h0 := ka.cell 0 _ rfl; have h1 := ka.cell 1 _ rfl; have g0 := kb.cell 0 _ rfl; have g1 := kb.cell 1 _ rfl; clear hb2 ka kb))
  go_region_held3 (fun w' => w'.cell? ⟨w.heap.size, 0, none⟩ = some (.int .i64 t) ∧ w'.cell? ⟨w.heap.size, 1, none⟩ = some (.int .i64 v) ∧ w'.cell? ⟨w.heap.size + 1, 0, none⟩ = some (.slice VA vs.length vc) ∧ w'.cell? ⟨w.heap.size + 1, 1, none⟩ = some (.slice LA ls.length lc)) (first | exact ⟨by assumption, by assumption, by assumption, by assumption⟩ | go_keep) (first
    | (go_at_call 40; refine (HCP.out _ (by first | exact HB2.out.drew | exact (HB2.out.trans ((alloc_below w2 _).mono HB2.out.size)).drew)).mono ?_; rintro e w3 ⟨A1, k1, A2, k2, rfl, hr1, hr2, hb1, hb2, hbl⟩; have HR1 := Lib.hid hr1; have HR2 := Lib.hid hr2; have HL1 := Lib.hid hb1; have HL2 := Lib.hid hb2; have HBL := Lib.hid hbl; have y0 := (hbl.cell (lt_of_cell (show World.cell? _ _ = some _ from by first | exact h0 | exact (((alloc_below w2 (.map #[] 0)).cell (lt_of_cell h0)).trans h0)))).trans (show World.cell? _ _ = some _ from by first | exact h0 | exact (((alloc_below w2 (.map #[] 0)).cell (lt_of_cell h0)).trans h0)); have y1 := (hbl.cell (lt_of_cell (show World.cell? _ _ = some _ from by first | exact h1 | exact (((alloc_below w2 (.map #[] 0)).cell (lt_of_cell h1)).trans h1)))).trans (show World.cell? _ _ = some _ from by first | exact h1 | exact (((alloc_below w2 (.map #[] 0)).cell (lt_of_cell h1)).trans h1)); have y2 := (hbl.cell (lt_of_cell (show World.cell? _ _ = some _ from by first | exact g0 | exact (((alloc_below w2 (.map #[] 0)).cell (lt_of_cell g0)).trans g0)))).trans (show World.cell? _ _ = some _ from by first | exact g0 | exact (((alloc_below w2 (.map #[] 0)).cell (lt_of_cell g0)).trans g0)); have y3 := (hbl.cell (lt_of_cell (show World.cell? _ _ = some _ from by first | exact g1 | exact (((alloc_below w2 (.map #[] 0)).cell (lt_of_cell g1)).trans g1)))).trans (show World.cell? _ _ = some _ from by first | exact g1 | exact (((alloc_below w2 (.map #[] 0)).cell (lt_of_cell g1)).trans g1)); clear hr1 hr2 hb1 hb2 hbl))
  all_goals
    go_wp2
    go_ret2
  · have hB := HBL.out
    have hs := hB.size
    have hs' : w2.heap.size ≤ w3.heap.size := hs
    have e : (w3.alloc (.map #[] 0)).heap.size = w3.heap.size + 1 := by simp
    have hal := alloc_below w3 (.map #[] 0)
    have b1 := HL1.out
    have b2 := HL2.out
    have b1' : ∀ a, A1 = some a → w2.heap.size ≤ a.block ∧ a.block < w3.heap.size := b1
    have b2' : ∀ a, A2 = some a → w2.heap.size ≤ a.block ∧ a.block < w3.heap.size := b2
    have h24 : Below w2.heap.size w2 (w3.alloc (.map #[] 0)) := (below_d1 w2).trans (hB.trans (hal.mono hs))
    refine ⟨⟨(w3.alloc (.map #[] 0)).heap.size, w3.heap.size, A1, k1, A2, k2⟩, by rw [e]; rfl, made_of HNO.out HB2.out h24 hs' (MapA.new w3) (HR1.out.below hal) (HR2.out.below hal) (fun a ha => ?_) (fun a ha => ?_) (fun a ha => ?_) (fun a ha => ?_) rfl⟩
    · have := b1' a ha; rw [e]; omega
    · have := b2' a ha; rw [e]; omega
    · have := b1' a ha; omega
    · have := b2' a ha; omega
  · have hB := HBL.out
    have hs : w2.heap.size + 1 ≤ w3.heap.size := by have := hB.size; simpa using this
    have b1 : ∀ a, A1 = some a → w2.heap.size + 1 ≤ a.block ∧ a.block < w3.heap.size := fun a ha => by have := HL1.out a ha; simpa using this
    have b2 : ∀ a, A2 = some a → w2.heap.size + 1 ≤ a.block ∧ a.block < w3.heap.size := fun a ha => by have := HL2.out a ha; simpa using this
    have hal := alloc_below w2 (.map #[] 0)
    have h24 : Below w2.heap.size w2 w3 := (hal.drew).trans (hB.mono (by simp))
    have hm : MapA w3 w2.heap.size noneA := (MapA.new w2).of (by have := hB.block w2.heap.size (by simp); exact this)
    refine ⟨⟨w3.heap.size, w2.heap.size, A1, k1, A2, k2⟩, rfl, made_of HNO.out HB2.out h24 (Nat.le_refl _) hm HR1.out HR2.out (fun a ha => ?_) (fun a ha => ?_) (fun a ha => ?_) (fun a ha => ?_) rfl⟩
    · have := b1 a ha; omega
    · have := b2 a ha; omega
    · have := b1 a ha; omega
    · have := b2 a ha; omega
set_option maxRecDepth 100000 in
set_option maxHeartbeats 3200000 in
theorem joined_ok (p : Pl) (s : St) (VA : Option Addr) (vc : Nat) (vs : List Int) (LA : Option Addr) (lc : Nat) (ls : List Int) (w : World) (h : Im w p s) (hv : RdI w VA vs.length vs) (hl : RdI w LA ls.length ls) (hg : grpOk vs ls = true) :
    Calls Tryz.prog 52 #[.pointer (some ⟨p.g, 0, none⟩), grpV VA vs.length vc LA ls.length lc] w fun e w' => ∃ p', e = .returned (.int .i64 0) ∧ p'.g = p.g ∧ p'.b = p.b ∧ Did w w' p' { s with vs := vs, ls := ls } ∧ (∀ i ∈ p'.all, i ∈ p.all ∨ w.heap.size ≤ i) ∧ (∀ i ∈ p'.all, i < w'.heap.size) := by
  have hal := alloc_below w (.cells #[.slice VA vs.length vc, .slice LA ls.length lc] 26)
  have hk := Blk.new w #[.slice VA vs.length vc, .slice LA ls.length lc] 26
  have HAL := Lib.hid hal
  have HIW := Lib.hid (fun W (hW : Below w.heap.size w W) => h.below hW)
  have HK := Lib.hid (fun W hW => hk.below (w' := W) hW)
  have HP := Lib.hid (fun i (hi : i ∈ p.ft) => h.lt i hi)
  have HJ := Lib.hid (El.join_ok h.ok hg)
  have hgl := grp_len hg
  have HRT := Lib.hid (right_any VA vs.length vc vs LA ls.length lc ls _ (hv.below hal) (hl.below hal))
  have HCP := Lib.hid (fun W (hW : Below w.heap.size w W) => copied_any VA vc vs LA lc ls W (hv.below hW) (hl.below hW) (by omega) (by omega))
  rw [hg] at HRT
  have g0 := hk.cell 0 (.slice VA vs.length vc) rfl
  have g1 := hk.cell 1 (.slice LA ls.length lc) rfl
  unfold grpV at HRT HCP ⊢
  unfold CpIs grpV at HCP
  have HNE := Lib.hid h.ne
  clear h hal hk hv hl hg
  go_enter Tryz.func52, Tryz.ntmps52
  go_wp2_with fail
  refine HRT.out.mono ?_
  rintro e w1 ⟨rfl, hb1⟩
  have HB1 := Lib.hid (HAL.out.trans (hb1.mono HAL.out.size))
  have k1 := HK.out w1 hb1
  have g0 := k1.cell 0 _ rfl
  have g1 := k1.cell 1 _ rfl
  clear hb1 k1
  go_wp2_with fail
  refine (HCP.out _ (by exact HB1.out)).mono ?_
  rintro e w2 ⟨A1, k1, A2, k2, rfl, hr1, hr2, hb1, hb2, hbl⟩
  have HB2 := Lib.hid (HB1.out.trans (hbl.mono HB1.out.size))
  have HR1 := Lib.hid hr1
  have HR2 := Lib.hid hr2
  have HL1 := Lib.hid hb1
  have HL2 := Lib.hid hb2
  have HI2 := Lib.hid (HIW.out w2 HB2.out)
  have c4 := HI2.out.blk.cells.2.2.2.2.1
  have c5 := HI2.out.blk.cells.2.2.2.2.2.1
  have f4 := Blk.free HI2.out.blk 4
  have f5 := Blk.free HI2.out.blk 5
  clear hr1 hr2 hb1 hb2 hbl g0 g1
  go_wp2
  go_ret
  have hf : Dk.Fr p.ft w2 ((w2.setCell ⟨p.g, 4, none⟩ (.slice A1 vs.length k1)).setCell ⟨p.g, 5, none⟩ (.slice A2 ls.length k2)) := ((Dk.Fr.refl _ _).setCell _ (.inl (by simp [Pl.ft])) _).setCell _ (.inl (by simp [Pl.ft])) _
  have hs1 := HB1.out.size
  have hnew : ∀ i, w1.heap.size ≤ i → i ∉ p.ft := fun i hi hm => by have := HP.out i hm; omega
  have hg1 : p.g ∈ p.ft := by simp [Pl.ft]
  have hg2 : p.b ∈ p.ft := by simp [Pl.ft]
  refine ⟨⟨p.g, p.b, A1, k1, A2, k2⟩, rfl, rfl, rfl, ⟨⟨?_, ?_, rdI_fr HR1.out hf ?_, rdI_fr HR2.out hf ?_, ?_, ?_, HNE.out, HJ.out⟩, (Dk.Fr.below HB2.out).same hf⟩, ?_, ?_⟩
  · exact Blk.set (Blk.set HI2.out.blk 4 _ (by show 4 < 11; omega)) 5 _ (by show 5 < 11; omega)
  · exact HI2.out.map.of ((Below.heap_setCell _ _ _ _ (Ne.symm HNE.out)).trans (Below.heap_setCell _ _ _ _ (Ne.symm HNE.out)))
  · intro a ha; exact hnew _ (HL1.out a ha).1
  · intro a ha; exact hnew _ (HL2.out a ha).1
  · intro a ha
    have h1 := hnew _ (HL1.out a ha).1
    exact ⟨fun e => h1 (by rw [e]; exact hg1), fun e => h1 (by rw [e]; exact hg2)⟩
  · intro a ha
    have h1 := hnew _ (HL2.out a ha).1
    exact ⟨fun e => h1 (by rw [e]; exact hg1), fun e => h1 (by rw [e]; exact hg2)⟩
  · intro i hi
    simp only [Pl.all, List.mem_cons, List.mem_append, Option.mem_toList, Option.map_eq_some_iff] at hi ⊢
    rcases hi with (rfl | rfl | ⟨a, ha, rfl⟩) | ⟨a, ha, rfl⟩
    · exact .inl (.inl (.inl rfl))
    · exact .inl (.inl (.inr (.inl rfl)))
    · exact .inr (by have := (HL1.out a ha).1; omega)
    · exact .inr (by have := (HL2.out a ha).1; omega)
  · intro i hi
    have hi2 := HI2.out
    simp only [Pl.all, List.mem_cons, List.mem_append, Option.mem_toList, Option.map_eq_some_iff] at hi
    rcases hi with (rfl | rfl | ⟨a, ha, rfl⟩) | ⟨a, ha, rfl⟩
    · exact Nat.lt_of_lt_of_le (Blk.lt hi2.blk) hf.size
    · exact Nat.lt_of_lt_of_le hi2.map.lt hf.size
    · exact Nat.lt_of_lt_of_le (HL1.out a ha).2 hf.size
    · exact Nat.lt_of_lt_of_le (HL2.out a ha).2 hf.size
theorem joined_bad (p : Pl) (s : St) (VA : Option Addr) (vc : Nat) (vs : List Int) (LA : Option Addr) (lc : Nat) (ls : List Int) (w : World) (h : Im w p s) (hv : RdI w VA vs.length vs) (hl : RdI w LA ls.length ls) (hg : grpOk vs ls = false) :
    Calls Tryz.prog 52 #[.pointer (some ⟨p.g, 0, none⟩), grpV VA vs.length vc LA ls.length lc] w fun e w' => e = .returned (.int .i64 1) ∧ Below w.heap.size w w' := by
  have hal := alloc_below w (.cells #[.slice VA vs.length vc, .slice LA ls.length lc] 26)
  have hk := Blk.new w #[.slice VA vs.length vc, .slice LA ls.length lc] 26
  have HAL := Lib.hid hal
  have HRT := Lib.hid (right_any VA vs.length vc vs LA ls.length lc ls _ (hv.below hal) (hl.below hal))
  rw [hg] at HRT
  have g0 := hk.cell 0 (.slice VA vs.length vc) rfl
  have g1 := hk.cell 1 (.slice LA ls.length lc) rfl
  unfold grpV at HRT ⊢
  clear h hal hk hv hl hg
  go_enter Tryz.func52, Tryz.ntmps52
  go_wp2_with fail
  refine HRT.out.mono ?_
  rintro e w1 ⟨rfl, hb1⟩
  have HB1 := Lib.hid (HAL.out.trans (hb1.mono HAL.out.size))
  clear hb1
  go_wp2
  go_ret
  exact ⟨rfl, HB1.out⟩
end Go.Proofs.YtjadfpcipicckaaGreat.El

namespace Go.Proofs.YtjadfpcipicckaaGreat.Rg
open Go.RowKit Go.Proofs.YtjadfpcipicckaaGreat.Fld
set_option linter.unusedVariables false

theorem setCells_blk (g : Nat) (t : TypeId) : ∀ (vs : List Value) (o : Nat) (w : World) (cur : Array Value), Blk w g cur t → o + vs.length ≤ cur.size →
    ∃ cur', Blk (w.setCells g o vs) g cur' t ∧ cur'.size = cur.size ∧ (∀ j, j < o ∨ o + vs.length ≤ j → cur'[j]? = cur[j]?) ∧ ∀ j, j < vs.length → cur'[o + j]? = vs[j]?
  | [], o, w, cur, h, _ => ⟨cur, h, rfl, fun _ _ => rfl, fun j hj => by simp at hj⟩
  | v :: r, o, w, cur, h, hl => by
    simp only [List.length_cons] at hl
    obtain ⟨c2, h1, h2, h3, h4⟩ := setCells_blk g t r (o + 1) (w.setCell ⟨g, o, none⟩ v) _ (h.set o v (by omega)) (by simp; omega)
    refine ⟨c2, h1, by rw [h2]; simp, fun j hj => ?_, fun j hj => ?_⟩
    · simp only [List.length_cons] at hj
      rw [h3 j (by omega), Array.getElem?_setIfInBounds_ne (by omega)]
    · cases j with
      | zero =>
        rw [Nat.add_zero, h3 o (by omega), Array.getElem?_setIfInBounds_self_of_lt (by omega)]
        rfl
      | succ j =>
        have := h4 j (by simp at hj; omega)
        rw [show o + (j + 1) = o + 1 + j by omega, this]
        rfl
theorem fr_setCells {S : List Nat} {a : World} {g : Nat} (hg : g ∈ S ∨ a.heap.size ≤ g) : ∀ (vs : List Value) (o : Nat) (w : World), Dk.Fr S a w → Dk.Fr S a (w.setCells g o vs)
  | [], _, _, h => h
  | v :: r, o, w, h => fr_setCells hg r (o + 1) _ (h.setCell _ hg v)
theorem run_clear_rows (w : World) (t e ty : TypeId) (z : Value) (ht : Tryz.prog.underlying t = some (.slice e)) (hv : ∀ w, (zeroValue e).run Tryz.prog w = .ok z w) (b o n c : Nat) (hn : 0 < n)
    (h1 : ∀ v ∈ (Builtin.zeroCells z.cells n).toList, v.oneCell' = true)
    (hc : ∀ j, j < (Builtin.zeroCells z.cells n).toList.length → (w.cell? ⟨b, o + j, none⟩).isSome = true) (hf : ∀ j, j < (Builtin.zeroCells z.cells n).toList.length → w.frozen? ⟨b, o + j, none⟩ = false) :
    (Builtin.clear_ #[t] ty #[.slice (some ⟨b, o, none⟩) n c]).run Tryz.prog w = .ok (.tuple #[]) (w.setCells b o (Builtin.zeroCells z.cells n).toList) := by
  have hst := run_storeCells_cells (P := Tryz.prog) b o (Builtin.zeroCells z.cells n).toList 0 w (by simpa using hc) (by simpa using hf) h1
  simp only [Nat.add_zero] at hst
  obtain ⟨m, rfl⟩ : ∃ m, n = m + 1 := ⟨n - 1, by omega⟩
  simp [Builtin.clear_, run_underlying ht, hv, hst]
theorem wpList_clear {w : World} {ops : Array Oper} {rest : List Oper} {o : Oper} {a : Act} {Q : Exit → Act → World → Prop} (hgd : o.guard = none) (x : Operand) (t : TypeId)
    (ho : o.op = .call { callee := .builtin .clear, args := #[x], argTypes := #[t] }) (V : Value) (hx : a.eval x = V) (w' : World) (hrun : (Builtin.clear_ #[t] o.type #[V]).run Tryz.prog w = .ok (.tuple #[]) w')
    (h : wpList Tryz.prog ops Q rest (a.put o.dst (.tuple #[])) w') : wpList Tryz.prog ops Q (o :: rest) a w := by
  refine wpList_plain hgd fun _ hK => ?_
  unfold Oper.wp execOp
  simp only [ho, resolve, invoke, builtin, Sem.run_bind, Sem.run_pure, Result.andThen_ok, List.map_toArray, List.map_cons, List.map_nil, hx, hrun]
  exact hK _ _ h
theorem zero_entry (w : World) : (zeroValue 67).run Tryz.prog w = .ok (.agg #[.int .i64 0, .int .i64 0, .int .i64 0, .slice none 0 0]) w := by kernel_rfl
theorem zcells_len (z : Value) (n : Nat) : (Builtin.zeroCells z.cells n).toList.length = z.cells.size * n := by
  simp [Builtin.zeroCells, Nat.mul_comm]
/-- what the move and the clearing leave of a row: m entries from place i on, then zeros behind q = i + m -/
theorem del_end (g n cap i m lo : Nat) (xs : List EA) (news zs : List Value) (w wq : World) (cur : Array Value) (hcur : Blk wq g cur 67) (hg : lo ≤ g) (hnc : n ≤ cap) (hcm : cap ≤ maxLen) (hcs : cur.size = cap * 4) (hcu : cur.toList.take (n * 4) = rowE xs) (hl : xs.length = n) (j : Nat) (hij : i + m ≤ n) (hj : j + m = n) (hnews : news = (rowE xs).drop (j * 4)) (hzl : zs.length = 4 * (n - (i + m))) (hfr : Dk.Fr [g] w wq) :
    ((wq.setCells g (0 + i * 4) news).setCells g (0 + (i + m) * 4) zs).ownsRow lo 67 4 (.slice (some ⟨g, 0, none⟩) (i + m) cap) (i + m) (rowE (xs.take i ++ xs.drop j)) ∧ Dk.Fr [g] w ((wq.setCells g (0 + i * 4) news).setCells g (0 + (i + m) * 4) zs) := by
  have hnl : news.length = m * 4 := by rw [hnews, List.length_drop, rowE_len]; omega
  rw [Nat.zero_add, Nat.zero_add]
  obtain ⟨c1, b1, s1, o1, n1⟩ := setCells_blk g 67 news (i * 4) wq cur hcur (by omega)
  obtain ⟨c2, b2, s2, o2, n2⟩ := setCells_blk g 67 zs ((i + m) * 4) _ c1 b1 (by omega)
  refine ⟨⟨by rw [rowE_len, List.length_append, List.length_take, List.length_drop]; omega, .inr ⟨g, cap, c2, rfl, hg, b2, by omega, hcm, by omega, ?_⟩⟩, fr_setCells (.inl (by simp)) zs _ _ (fr_setCells (.inl (by simp)) news _ _ hfr)⟩
  apply List.ext_getElem?
  intro t
  rw [List.getElem?_take]
  split
  · next ht =>
    rw [Array.getElem?_toList, o2 t (.inl ht), rowE_append, rowE_take, rowE_drop]
    rcases Nat.lt_or_ge t (i * 4) with h | h
    · rw [o1 t (.inl h), List.getElem?_append_left (by rw [List.length_take, rowE_len]; omega), List.getElem?_take, if_pos h, ← hcu, List.getElem?_take, if_pos (by omega), Array.getElem?_toList]
    · have hl2 : ((rowE xs).take (i * 4)).length = i * 4 := by rw [List.length_take, rowE_len]; omega
      rw [List.getElem?_append_right (by omega), hl2, ← hnews, ← n1 (t - i * 4) (by omega), show i * 4 + (t - i * 4) = t by omega]
  · next ht =>
    rw [List.getElem?_eq_none]
    rw [rowE_len, List.length_append, List.length_take, List.length_drop]
    omega
end Go.Proofs.YtjadfpcipicckaaGreat.Rg
