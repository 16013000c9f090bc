/-
  Several texts in one: Layer 10, in the program: New, Join. Conditions: as each theorem states. Layer 8: replace in the program. Conditions: the log lies in memory as it was made; what comes in lies in older memory.
-/
import Derived.Test.YtjadfpcipicckaaGreatJElT
import Derived.Test.YtjadfpcipicckaaGreatJRlgDel
namespace Go.Proofs.YtjadfpcipicckaaGreat.El
open Go.RowKit Go.Proofs.YtjadfpcipicckaaGreat.Qu Go.Proofs.YtjadfpcipicckaaGreat.Fld
set_option linter.unusedVariables false

def bxN (w : World) (t v : Int) (VA : Option Addr) (vn vc : Nat) (LA : Option Addr) (ln lc : Nat) : World := (w.alloc (.cells #[.int .i64 t, .int .i64 v] 23)).alloc (.cells #[.slice VA vn vc, .slice LA ln lc] 26)
theorem bxN_below (w : World) (t v : Int) (VA : Option Addr) (vn vc : Nat) (LA : Option Addr) (ln lc : Nat) : Below w.heap.size w (bxN w t v VA vn vc LA ln lc) := (alloc_below w _).trans ((alloc_below (w.alloc (.cells #[.int .i64 t, .int .i64 v] 23)) _).mono (alloc_below w _).size)
theorem bxN_blk (w : World) (t v : Int) (VA : Option Addr) (vn vc : Nat) (LA : Option Addr) (ln lc : Nat) : Blk (bxN w t v VA vn vc LA ln lc) w.heap.size #[.int .i64 t, .int .i64 v] 23 ∧ Blk (bxN w t v VA vn vc LA ln lc) (w.heap.size + 1) #[.slice VA vn vc, .slice LA ln lc] 26 := by
  refine ⟨(Blk.new w _ _).past _, ?_⟩
  have := Blk.new (w.alloc (.cells #[.int .i64 t, .int .i64 v] 23)) #[.slice VA vn vc, .slice LA ln lc] 26
  rwa [show (w.alloc (.cells #[.int .i64 t, .int .i64 v] 23)).heap.size = w.heap.size + 1 by simp] at this
set_option maxRecDepth 100000 in
set_option maxHeartbeats 3200000 in
theorem new_bad (id t v pat : Int) (VA : Option Addr) (vc : Nat) (vs : List Int) (LA : Option Addr) (lc : Nat) (ls : List Int) (w : World) (hv : RdI w VA vs.length vs) (hl : RdI w LA ls.length ls) (hn : newOk id t v vs ls pat = false) :
    Calls Tryz.prog 16 #[.int .i64 id, .agg #[.int .i64 t, .int .i64 v], grpV VA vs.length vc LA ls.length lc, .int .i64 pat] w fun e w' => e = .returned (.tuple #[.pointer none, .int .i64 1]) ∧ Below w.heap.size w w' := by
  have hb0 := bxN_below w t v VA vs.length vc LA ls.length lc
  obtain ⟨hk1, hk2⟩ := bxN_blk w t v VA vs.length vc LA ls.length lc
  have HB0 := Lib.hid hb0
  have HBX := Lib.hid (Below.refl (bxN w t v VA vs.length vc LA ls.length lc).heap.size (bxN w t v VA vs.length vc LA ls.length lc))
  have HK := Lib.hid (fun W (hW : Below (bxN w t v VA vs.length vc LA ls.length lc).heap.size (bxN w t v VA vs.length vc LA ls.length lc) W) => And.intro (hk1.below hW) (hk2.below hW))
  have HVN := Lib.hid (fun W => validNode_any id W)
  have HVH := Lib.hid (fun W => validHard_any t v W)
  have HRT := Lib.hid (fun W (hW : Below w.heap.size w W) => right_any VA vs.length vc vs LA ls.length lc ls W (hv.below hW) (hl.below hW))
  have h0 := hk1.cell 0 (.int .i64 t) rfl
  have h1 := hk1.cell 1 (.int .i64 v) rfl
  have g0 := hk2.cell 0 (.slice VA vs.length vc) rfl
  have g1 := hk2.cell 1 (.slice LA ls.length lc) rfl
  unfold newOk at hn
  unfold grpV at HRT ⊢
  unfold bxN at *
  clear hb0 hk1 hk2 hv hl
  cases hid : okNode id with
  | false =>
    rw [hid] at HVN
    clear hn hid
    go_enter Tryz.func16, Tryz.ntmps16
    go_wp2_with (go_at_call 38; refine (HVN.out _).mono ?_; rintro e w' ⟨rfl, rfl⟩)
    go_ret2
    exact ⟨rfl, HB0.out⟩
  | true =>
    rw [hid] at HVN hn
    cases hh : okHard t v with
    | false =>
      rw [hh] at HVH
      clear hn hid hh
      go_enter Tryz.func16, Tryz.ntmps16
      go_wp2_with (first | (go_at_call 38; refine (HVN.out _).mono ?_; rintro e w' ⟨rfl, rfl⟩) | (go_at_call 39; refine (HVH.out _).mono ?_; rintro e w1 ⟨rfl, hb1⟩; have HB1 := Lib.hid (HB0.out.trans (hb1.mono HB0.out.size)); clear hb1))
      go_ret2
      exact ⟨rfl, HB1.out⟩
    | true =>
      rw [hh] at HVH hn
      cases hg : grpOk vs ls with
      | false =>
        rw [hg] at HRT
        clear hn hid hh hg
        go_enter Tryz.func16, Tryz.ntmps16
        go_wp2_with (first | (go_at_call 38; refine (HVN.out _).mono ?_; rintro e w' ⟨rfl, rfl⟩) | (go_at_call 39; refine (HVH.out _).mono ?_; rintro e w1 ⟨rfl, hb1⟩; have HB1 := Lib.hid (HB0.out.trans (hb1.mono HB0.out.size)); obtain ⟨ka, kb⟩ := HK.out w1 hb1; have g0 := kb.cell 0 _ rfl; have g1 := kb.cell 1 _ rfl; clear hb1 ka kb) | (go_at_call 37; refine (HRT.out _ HB1.out).mono ?_; rintro e w2 ⟨rfl, hb2⟩; have HB2 := Lib.hid (HB1.out.trans (hb2.mono HB1.out.size)); clear hb2))
        go_ret2
        exact ⟨rfl, HB2.out⟩
      | true =>
        rw [hg] at HRT hn
        by_cases hp : pat < 1
        · have d1 : decide (pat < 1) = true := decide_eq_true hp
          clear hn hid hh hg hp
          go_enter Tryz.func16, Tryz.ntmps16
          go_wp2_with (first | (go_at_call 38; refine (HVN.out _).mono ?_; rintro e w' ⟨rfl, rfl⟩) | (go_at_call 39; refine (HVH.out _).mono ?_; rintro e w1 ⟨rfl, hb1⟩; have HB1 := Lib.hid (HB0.out.trans (hb1.mono HB0.out.size)); obtain ⟨ka, kb⟩ := HK.out w1 hb1; have g0 := kb.cell 0 _ rfl; have g1 := kb.cell 1 _ rfl; clear hb1 ka kb) | (go_at_call 37; refine (HRT.out _ HB1.out).mono ?_; rintro e w2 ⟨rfl, hb2⟩; have HB2 := Lib.hid (HB1.out.trans (hb2.mono HB1.out.size)); clear hb2))
          go_ret2
          exact ⟨rfl, HB2.out⟩
        · have d1 : decide (pat < 1) = false := decide_eq_false hp
          have d2 : decide (1000 < pat) = true := by
            simp only [Bool.true_and, Bool.and_eq_false_iff, decide_eq_false_iff_not] at hn
            simp
            omega
          clear hn hid hh hg hp
          go_enter Tryz.func16, Tryz.ntmps16
          go_wp2_with (first | (go_at_call 38; refine (HVN.out _).mono ?_; rintro e w' ⟨rfl, rfl⟩) | (go_at_call 39; refine (HVH.out _).mono ?_; rintro e w1 ⟨rfl, hb1⟩; have HB1 := Lib.hid (HB0.out.trans (hb1.mono HB0.out.size)); obtain ⟨ka, kb⟩ := HK.out w1 hb1; have g0 := kb.cell 0 _ rfl; have g1 := kb.cell 1 _ rfl; clear hb1 ka kb) | (go_at_call 37; refine (HRT.out _ HB1.out).mono ?_; rintro e w2 ⟨rfl, hb2⟩; have HB2 := Lib.hid (HB1.out.trans (hb2.mono HB1.out.size)); clear hb2))
          go_ret2
          exact ⟨rfl, HB2.out⟩
/-- a node that was made behind a world -/
structure Made (w w' : World) (p : Pl) (s : St) : Prop where
  im : Im w' p s
  bel : Below w.heap.size w w'
  new : ∀ i ∈ p.all, w.heap.size ≤ i ∧ i < w'.heap.size
theorem made_of {w w3 w4 w5 : World} {id t v pat : Int} {vs ls : List Int} {A1 A2 : Option Addr} {c1 c2 mb : Nat} (hn : newOk id t v vs ls pat = true) (hb : Below w.heap.size w w3) (h34 : Below w3.heap.size w3 w4) (hmb : w3.heap.size ≤ mb) (hm : MapA w4 mb noneA)
    (r1 : RdI w4 A1 vs.length vs) (r2 : RdI w4 A2 ls.length ls) (b1 : ∀ a, A1 = some a → w3.heap.size ≤ a.block ∧ a.block < w4.heap.size) (b2 : ∀ a, A2 = some a → w3.heap.size ≤ a.block ∧ a.block < w4.heap.size) (n1 : ∀ a, A1 = some a → a.block ≠ mb) (n2 : ∀ a, A2 = some a → a.block ≠ mb)
    (hw5 : w5 = w4.alloc (.cells (ndC ⟨w4.heap.size, mb, A1, c1, A2, c2⟩ (st0 id t v vs ls pat)) 90)) : Made w w5 ⟨w4.heap.size, mb, A1, c1, A2, c2⟩ (st0 id t v vs ls pat) := by
  subst hw5
  have hal := alloc_below w4 (.cells (ndC ⟨w4.heap.size, mb, A1, c1, A2, c2⟩ (st0 id t v vs ls pat)) 90)
  have hml := hm.lt
  have h3 := hb.size
  refine ⟨⟨Blk.new w4 _ _, hm.of (hal.block _ hml), r1.below hal, r2.below hal, fun a ha => ?_, fun a ha => ?_, by show w4.heap.size ≠ mb; omega, st0_ok hn⟩, hb.trans ((h34.trans (hal.mono h34.size)).mono hb.size), fun i hi => ?_⟩
  · have := b1 a ha; exact ⟨by show a.block ≠ w4.heap.size; omega, n1 a ha⟩
  · have := b2 a ha; exact ⟨by show a.block ≠ w4.heap.size; omega, n2 a ha⟩
  · have hs : (w4.alloc (.cells (ndC ⟨w4.heap.size, mb, A1, c1, A2, c2⟩ (st0 id t v vs ls pat)) 90)).heap.size = w4.heap.size + 1 := by simp
    rw [hs]
    have h4 := h34.size
    simp only [Pl.all, List.mem_cons, List.mem_append, Option.mem_toList, Option.map_eq_some_iff] at hi
    rcases hi with (rfl | rfl | ⟨a, ha, rfl⟩) | ⟨a, ha, rfl⟩
    · omega
    · omega
    · have := b1 a ha; omega
    · have := b2 a ha; omega
set_option maxRecDepth 100000 in
set_option maxHeartbeats 3200000 in
theorem new_ok (id t v pat : Int) (VA : Option Addr) (vc : Nat) (vs : List Int) (LA : Option Addr) (lc : Nat) (ls : List Int) (w : World) (hv : RdI w VA vs.length vs) (hl : RdI w LA ls.length ls) (hn : newOk id t v vs ls pat = true) :
    Calls Tryz.prog 16 #[.int .i64 id, .agg #[.int .i64 t, .int .i64 v], grpV VA vs.length vc LA ls.length lc, .int .i64 pat] w fun e w' => ∃ p, e = .returned (.tuple #[.pointer (some ⟨p.g, 0, none⟩), .int .i64 0]) ∧ Made w w' p (st0 id t v vs ls pat) := by
  have hb0 := bxN_below w t v VA vs.length vc LA ls.length lc
  obtain ⟨hk1, hk2⟩ := bxN_blk w t v VA vs.length vc LA ls.length lc
  have HB0 := Lib.hid hb0
  have HK := Lib.hid (fun W (hW : Below (bxN w t v VA vs.length vc LA ls.length lc).heap.size (bxN w t v VA vs.length vc LA ls.length lc) W) => And.intro (hk1.below hW) (hk2.below hW))
  have HNO := Lib.hid hn
  have hn' := hn
  simp only [newOk, Bool.and_eq_true, decide_eq_true_eq] at hn'
  obtain ⟨hid, hh, hg, hp1, hp2⟩ := hn'
  have hgl := grp_len hg
  have HVN := Lib.hid (fun W => validNode_any id W)
  have HVH := Lib.hid (fun W => validHard_any t v W)
  have HRT := Lib.hid (fun W (hW : Below w.heap.size w W) => right_any VA vs.length vc vs LA ls.length lc ls W (hv.below hW) (hl.below hW))
  have HCP := Lib.hid (fun W (hW : Below w.heap.size w W) => copied_any VA vc vs LA lc ls W (hv.below hW) (hl.below hW) (by omega) (by omega))
  rw [hid] at HVN
  rw [hh] at HVH
  rw [hg] at HRT
  have d1 : decide (pat < 1) = false := decide_eq_false (by omega)
  have d2 : decide (1000 < pat) = false := decide_eq_false (by omega)
  have h0 := hk1.cell 0 (.int .i64 t) rfl
  have h1 := hk1.cell 1 (.int .i64 v) rfl
  have g0 := hk2.cell 0 (.slice VA vs.length vc) rfl
  have g1 := hk2.cell 1 (.slice LA ls.length lc) rfl
  have hmm := @run_makeMap Tryz.prog
  unfold grpV at HRT HCP ⊢
  unfold CpIs grpV at HCP
  unfold bxN at *
  clear hb0 hk1 hk2 hv hl hn hid hh hg hp1 hp2
  go_enter Tryz.func16, Tryz.ntmps16
  go_wp2_with (first | (go_at_call 38; refine (HVN.out _).mono ?_; rintro e w' ⟨rfl, rfl⟩) | (go_at_call 39; refine (HVH.out _).mono ?_; rintro e w1 ⟨rfl, hb1⟩; have HB1 := Lib.hid (HB0.out.trans (hb1.mono HB0.out.size)); have HX1 := Lib.hid hb1; obtain ⟨ka, kb⟩ := HK.out w1 hb1; have g0 := kb.cell 0 _ rfl; have g1 := kb.cell 1 _ rfl; clear hb1 ka kb) | (go_at_call 37; refine (HRT.out _ HB1.out).mono ?_; rintro e w2 ⟨rfl, hb2⟩; have HB2 := Lib.hid (HB1.out.trans (hb2.mono HB1.out.size)); have HX2 := Lib.hid (HX1.out.trans (hb2.mono HX1.out.size)); obtain ⟨ka, kb⟩ := HK.out w2 HX2.out; have h0 := ka.cell 0 _ rfl; have h1 := ka.cell 1 _ rfl; have g0 := kb.cell 0 _ rfl; have g1 := kb.cell 1 _ rfl; clear hb2 ka kb))
  go_region_held3 (fun w' => w'.cell? ⟨w.heap.size, 0, none⟩ = some (.int .i64 t) ∧ w'.cell? ⟨w.heap.size, 1, none⟩ = some (.int .i64 v) ∧ w'.cell? ⟨w.heap.size + 1, 0, none⟩ = some (.slice VA vs.length vc) ∧ w'.cell? ⟨w.heap.size + 1, 1, none⟩ = some (.slice LA ls.length lc)) (first | exact ⟨by assumption, by assumption, by assumption, by assumption⟩ | go_keep) (first
    | (go_at_call 40; refine (HCP.out _ (by first | exact HB2.out.drew | exact (HB2.out.trans ((alloc_below w2 _).mono HB2.out.size)).drew)).mono ?_; rintro e w3 ⟨A1, k1, A2, k2, rfl, hr1, hr2, hb1, hb2, hbl⟩; have HR1 := Lib.hid hr1; have HR2 := Lib.hid hr2; have HL1 := Lib.hid hb1; have HL2 := Lib.hid hb2; have HBL := Lib.hid hbl; have y0 := (hbl.cell (lt_of_cell (show World.cell? _ _ = some _ from by first | exact h0 | exact (((alloc_below w2 (.map #[] 0)).cell (lt_of_cell h0)).trans h0)))).trans (show World.cell? _ _ = some _ from by first | exact h0 | exact (((alloc_below w2 (.map #[] 0)).cell (lt_of_cell h0)).trans h0)); have y1 := (hbl.cell (lt_of_cell (show World.cell? _ _ = some _ from by first | exact h1 | exact (((alloc_below w2 (.map #[] 0)).cell (lt_of_cell h1)).trans h1)))).trans (show World.cell? _ _ = some _ from by first | exact h1 | exact (((alloc_below w2 (.map #[] 0)).cell (lt_of_cell h1)).trans h1)); have y2 := (hbl.cell (lt_of_cell (show World.cell? _ _ = some _ from by first | exact g0 | exact (((alloc_below w2 (.map #[] 0)).cell (lt_of_cell g0)).trans g0)))).trans (show World.cell? _ _ = some _ from by first | exact g0 | exact (((alloc_below w2 (.map #[] 0)).cell (lt_of_cell g0)).trans g0)); have y3 := (hbl.cell (lt_of_cell (show World.cell? _ _ = some _ from by first | exact g1 | exact (((alloc_below w2 (.map #[] 0)).cell (lt_of_cell g1)).trans g1)))).trans (show World.cell? _ _ = some _ from by first | exact g1 | exact (((alloc_below w2 (.map #[] 0)).cell (lt_of_cell g1)).trans g1)); clear hr1 hr2 hb1 hb2 hbl))
  all_goals
    go_wp2
    go_ret2
  · have hB := HBL.out
    have hs := hB.size
    have hs' : w2.heap.size ≤ w3.heap.size := hs
    have e : (w3.alloc (.map #[] 0)).heap.size = w3.heap.size + 1 := by simp
    have hal := alloc_below w3 (.map #[] 0)
    have b1 := HL1.out
    have b2 := HL2.out
    have b1' : ∀ a, A1 = some a → w2.heap.size ≤ a.block ∧ a.block < w3.heap.size := b1
    have b2' : ∀ a, A2 = some a → w2.heap.size ≤ a.block ∧ a.block < w3.heap.size := b2
    have h24 : Below w2.heap.size w2 (w3.alloc (.map #[] 0)) := (below_d1 w2).trans (hB.trans (hal.mono hs))
    refine ⟨⟨(w3.alloc (.map #[] 0)).heap.size, w3.heap.size, A1, k1, A2, k2⟩, by rw [e]; rfl, made_of HNO.out HB2.out h24 hs' (MapA.new w3) (HR1.out.below hal) (HR2.out.below hal) (fun a ha => ?_) (fun a ha => ?_) (fun a ha => ?_) (fun a ha => ?_) rfl⟩
    · have := b1' a ha; rw [e]; omega
    · have := b2' a ha; rw [e]; omega
    · have := b1' a ha; omega
    · have := b2' a ha; omega
  · have hB := HBL.out
    have hs : w2.heap.size + 1 ≤ w3.heap.size := by have := hB.size; simpa using this
    have b1 : ∀ a, A1 = some a → w2.heap.size + 1 ≤ a.block ∧ a.block < w3.heap.size := fun a ha => by have := HL1.out a ha; simpa using this
    have b2 : ∀ a, A2 = some a → w2.heap.size + 1 ≤ a.block ∧ a.block < w3.heap.size := fun a ha => by have := HL2.out a ha; simpa using this
    have hal := alloc_below w2 (.map #[] 0)
    have h24 : Below w2.heap.size w2 w3 := (hal.drew).trans (hB.mono (by simp))
    have hm : MapA w3 w2.heap.size noneA := (MapA.new w2).of (by have := hB.block w2.heap.size (by simp); exact this)
    refine ⟨⟨w3.heap.size, w2.heap.size, A1, k1, A2, k2⟩, rfl, made_of HNO.out HB2.out h24 (Nat.le_refl _) hm HR1.out HR2.out (fun a ha => ?_) (fun a ha => ?_) (fun a ha => ?_) (fun a ha => ?_) rfl⟩
    · have := b1 a ha; omega
    · have := b2 a ha; omega
    · have := b1 a ha; omega
    · have := b2 a ha; omega
set_option maxRecDepth 100000 in
set_option maxHeartbeats 3200000 in
theorem joined_ok (p : Pl) (s : St) (VA : Option Addr) (vc : Nat) (vs : List Int) (LA : Option Addr) (lc : Nat) (ls : List Int) (w : World) (h : Im w p s) (hv : RdI w VA vs.length vs) (hl : RdI w LA ls.length ls) (hg : grpOk vs ls = true) :
    Calls Tryz.prog 52 #[.pointer (some ⟨p.g, 0, none⟩), grpV VA vs.length vc LA ls.length lc] w fun e w' => ∃ p', e = .returned (.int .i64 0) ∧ p'.g = p.g ∧ p'.b = p.b ∧ Did w w' p' { s with vs := vs, ls := ls } ∧ (∀ i ∈ p'.all, i ∈ p.all ∨ w.heap.size ≤ i) ∧ (∀ i ∈ p'.all, i < w'.heap.size) := by
  have hal := alloc_below w (.cells #[.slice VA vs.length vc, .slice LA ls.length lc] 26)
  have hk := Blk.new w #[.slice VA vs.length vc, .slice LA ls.length lc] 26
  have HAL := Lib.hid hal
  have HIW := Lib.hid (fun W (hW : Below w.heap.size w W) => h.below hW)
  have HK := Lib.hid (fun W hW => hk.below (w' := W) hW)
  have HP := Lib.hid (fun i (hi : i ∈ p.ft) => h.lt i hi)
  have HJ := Lib.hid (El.join_ok h.ok hg)
  have hgl := grp_len hg
  have HRT := Lib.hid (right_any VA vs.length vc vs LA ls.length lc ls _ (hv.below hal) (hl.below hal))
  have HCP := Lib.hid (fun W (hW : Below w.heap.size w W) => copied_any VA vc vs LA lc ls W (hv.below hW) (hl.below hW) (by omega) (by omega))
  rw [hg] at HRT
  have g0 := hk.cell 0 (.slice VA vs.length vc) rfl
  have g1 := hk.cell 1 (.slice LA ls.length lc) rfl
  unfold grpV at HRT HCP ⊢
  unfold CpIs grpV at HCP
  have HNE := Lib.hid h.ne
  clear h hal hk hv hl hg
  go_enter Tryz.func52, Tryz.ntmps52
  go_wp2_with fail
  refine HRT.out.mono ?_
  rintro e w1 ⟨rfl, hb1⟩
  have HB1 := Lib.hid (HAL.out.trans (hb1.mono HAL.out.size))
  have k1 := HK.out w1 hb1
  have g0 := k1.cell 0 _ rfl
  have g1 := k1.cell 1 _ rfl
  clear hb1 k1
  go_wp2_with fail
  refine (HCP.out _ (by exact HB1.out)).mono ?_
  rintro e w2 ⟨A1, k1, A2, k2, rfl, hr1, hr2, hb1, hb2, hbl⟩
  have HB2 := Lib.hid (HB1.out.trans (hbl.mono HB1.out.size))
  have HR1 := Lib.hid hr1
  have HR2 := Lib.hid hr2
  have HL1 := Lib.hid hb1
  have HL2 := Lib.hid hb2
  have HI2 := Lib.hid (HIW.out w2 HB2.out)
  have c4 := HI2.out.blk.cells.2.2.2.2.1
  have c5 := HI2.out.blk.cells.2.2.2.2.2.1
  have f4 := Blk.free HI2.out.blk 4
  have f5 := Blk.free HI2.out.blk 5
  clear hr1 hr2 hb1 hb2 hbl g0 g1
  go_wp2
  go_ret
  have hf : Dk.Fr p.ft w2 ((w2.setCell ⟨p.g, 4, none⟩ (.slice A1 vs.length k1)).setCell ⟨p.g, 5, none⟩ (.slice A2 ls.length k2)) := ((Dk.Fr.refl _ _).setCell _ (.inl (by simp [Pl.ft])) _).setCell _ (.inl (by simp [Pl.ft])) _
  have hs1 := HB1.out.size
  have hnew : ∀ i, w1.heap.size ≤ i → i ∉ p.ft := fun i hi hm => by have := HP.out i hm; omega
  have hg1 : p.g ∈ p.ft := by simp [Pl.ft]
  have hg2 : p.b ∈ p.ft := by simp [Pl.ft]
  refine ⟨⟨p.g, p.b, A1, k1, A2, k2⟩, rfl, rfl, rfl, ⟨⟨?_, ?_, rdI_fr HR1.out hf ?_, rdI_fr HR2.out hf ?_, ?_, ?_, HNE.out, HJ.out⟩, (Dk.Fr.below HB2.out).same hf⟩, ?_, ?_⟩
  · exact Blk.set (Blk.set HI2.out.blk 4 _ (by show 4 < 11; omega)) 5 _ (by show 5 < 11; omega)
  · exact HI2.out.map.of ((Below.heap_setCell _ _ _ _ (Ne.symm HNE.out)).trans (Below.heap_setCell _ _ _ _ (Ne.symm HNE.out)))
  · intro a ha; exact hnew _ (HL1.out a ha).1
  · intro a ha; exact hnew _ (HL2.out a ha).1
  · intro a ha
    have h1 := hnew _ (HL1.out a ha).1
    exact ⟨fun e => h1 (by rw [e]; exact hg1), fun e => h1 (by rw [e]; exact hg2)⟩
  · intro a ha
    have h1 := hnew _ (HL2.out a ha).1
    exact ⟨fun e => h1 (by rw [e]; exact hg1), fun e => h1 (by rw [e]; exact hg2)⟩
  · intro i hi
    simp only [Pl.all, List.mem_cons, List.mem_append, Option.mem_toList, Option.map_eq_some_iff] at hi ⊢
    rcases hi with (rfl | rfl | ⟨a, ha, rfl⟩) | ⟨a, ha, rfl⟩
    · exact .inl (.inl (.inl rfl))
    · exact .inl (.inl (.inr (.inl rfl)))
    · exact .inr (by have := (HL1.out a ha).1; omega)
    · exact .inr (by have := (HL2.out a ha).1; omega)
  · intro i hi
    have hi2 := HI2.out
    simp only [Pl.all, List.mem_cons, List.mem_append, Option.mem_toList, Option.map_eq_some_iff] at hi
    rcases hi with (rfl | rfl | ⟨a, ha, rfl⟩) | ⟨a, ha, rfl⟩
    · exact Nat.lt_of_lt_of_le (Blk.lt hi2.blk) hf.size
    · exact Nat.lt_of_lt_of_le hi2.map.lt hf.size
    · exact Nat.lt_of_lt_of_le (HL1.out a ha).2 hf.size
    · exact Nat.lt_of_lt_of_le (HL2.out a ha).2 hf.size
theorem joined_bad (p : Pl) (s : St) (VA : Option Addr) (vc : Nat) (vs : List Int) (LA : Option Addr) (lc : Nat) (ls : List Int) (w : World) (h : Im w p s) (hv : RdI w VA vs.length vs) (hl : RdI w LA ls.length ls) (hg : grpOk vs ls = false) :
    Calls Tryz.prog 52 #[.pointer (some ⟨p.g, 0, none⟩), grpV VA vs.length vc LA ls.length lc] w fun e w' => e = .returned (.int .i64 1) ∧ Below w.heap.size w w' := by
  have hal := alloc_below w (.cells #[.slice VA vs.length vc, .slice LA ls.length lc] 26)
  have hk := Blk.new w #[.slice VA vs.length vc, .slice LA ls.length lc] 26
  have HAL := Lib.hid hal
  have HRT := Lib.hid (right_any VA vs.length vc vs LA ls.length lc ls _ (hv.below hal) (hl.below hal))
  rw [hg] at HRT
  have g0 := hk.cell 0 (.slice VA vs.length vc) rfl
  have g1 := hk.cell 1 (.slice LA ls.length lc) rfl
  unfold grpV at HRT ⊢
  clear h hal hk hv hl hg
  go_enter Tryz.func52, Tryz.ntmps52
  go_wp2_with fail
  refine HRT.out.mono ?_
  rintro e w1 ⟨rfl, hb1⟩
  have HB1 := Lib.hid (HAL.out.trans (hb1.mono HAL.out.size))
  clear hb1
  go_wp2
  go_ret
  exact ⟨rfl, HB1.out⟩
end Go.Proofs.YtjadfpcipicckaaGreat.El

namespace Go.Proofs.YtjadfpcipicckaaGreat.Rg
open Go.RowKit Go.Proofs.YtjadfpcipicckaaGreat.Fld
set_option linter.unusedVariables false

theorem fr_drew {S : List Nat} {w w' : World} (h : Dk.Fr S w.drew w') : Dk.Fr S w w' := ⟨h.os, h.tape, h.output, h.size, h.block⟩
theorem own_slice (A : Option Addr) (n n' cap : Nat) : (Value.slice A n cap).ownBlock = (Value.slice A n' cap).ownBlock := by cases A <;> rfl
end Go.Proofs.YtjadfpcipicckaaGreat.Rg
