/-
  Layer 10, in the program: slices.Clone, copied, Hard, Role, Leader, Heard. Conditions: as each theorem states.
-/
import Derived.Test.YtnhcbampojpgfaaGreatElT
import Derived.Lib.LazyBuf
namespace Go.Proofs.YtnhcbampojpgfaaGreat.El
open Go.RowKit Go.Proofs.YtnhcbampojpgfaaGreat.Qu Go.Proofs.YtnhcbampojpgfaaGreat.Fld
set_option linter.unusedVariables false

theorem ownI_made (w : World) : OwnI w (w.alloc (.cells #[] 3)) (.slice (some ⟨w.heap.size, 0, none⟩) 0 0) [] :=
  ⟨alloc_below w _, by simp [vI], .inr ⟨w.heap.size, 0, #[], rfl, Nat.le_refl _, heap_alloc_new w _, Nat.le_refl _, by unfold maxLen; omega, rfl, rfl⟩⟩
theorem cloneI_any (A : Option Addr) (n cap : Nat) (l : List Int) (w : World) (hr : RdI w A n l) (hn : n ≤ 1000) : Calls Tryz.prog 151 #[.slice A n cap] w fun e w' => ∃ v, e = .returned v ∧ OwnI w w' v l := by
  have q := fun (w : World) (a : Option Addr) (l c : Nat) => run_eql_slice_nil (P := Tryz.prog) w 44 3 a l c Tryz.underlying44
  cases A with
  | none =>
    obtain ⟨rfl, rfl⟩ := hr.empty
    clear hr
    go_enter Tryz.func151, Tryz.ntmps151
    go_wp2
    go_ret
    exact ⟨_, rfl, OwnI.nil _ _ (Below.refl _ _)⟩
  | some a =>
    have HO := Lib.hid (ownI_made w)
    have HR1 := Lib.hid (hr.below HO.out.1)
    clear hr
    go_enter Tryz.func151, Tryz.ntmps151
    go_wp2_with (at_builtin; refine wpList_append_ints rfl _ _ rfl w _ [] rfl HO.out (some a) n cap l rfl (fun h => by cases h) HR1.out (by simp; omega) ?_; intro v1 w1 hO1 _; have HO2 := Lib.hid hO1; clear hO1)
    go_ret
    exact ⟨_, rfl, HO2.out⟩
/-- a group that shares no memory -/
def CpIs (w : World) (vs ls : List Int) (e : Ending) (w' : World) : Prop := ∃ A1 c1 A2 c2, e = .returned (grpV A1 vs.length c1 A2 ls.length c2) ∧ RdI w' A1 vs.length vs ∧ RdI w' A2 ls.length ls ∧ (∀ a, A1 = some a → w.heap.size ≤ a.block ∧ a.block < w'.heap.size) ∧ (∀ a, A2 = some a → w.heap.size ≤ a.block ∧ a.block < w'.heap.size) ∧ Below w.heap.size w w'
theorem ownI_lt {w0 w : World} {A : Option Addr} {n c : Nat} {l : List Int} (h : OwnI w0 w (.slice A n c) l) : ∀ a, A = some a → w0.heap.size ≤ a.block ∧ a.block < w.heap.size := by
  intro a ha
  rcases h.2.2 with ⟨h1, _⟩ | ⟨g, cap, cur, h1, hg, hh, _⟩
  · cases h1; cases ha
  · cases h1
    cases ha
    exact ⟨hg, (Array.getElem?_eq_some_iff.1 hh).1⟩
set_option maxRecDepth 100000 in
set_option maxHeartbeats 3200000 in
theorem copied_any (VA : Option Addr) (vc : Nat) (vs : List Int) (LA : Option Addr) (lc : Nat) (ls : List Int) (w : World) (hv : RdI w VA vs.length vs) (hl : RdI w LA ls.length ls) (h1 : vs.length ≤ 1000) (h2 : ls.length ≤ 1000) :
    Calls Tryz.prog 95 #[grpV VA vs.length vc LA ls.length lc] w (CpIs w vs ls) := by
  have hb0 : Below w.heap.size w ((w.alloc (.cells #[.slice VA vs.length vc, .slice LA ls.length lc] 46)).alloc (.cells #[.slice none 0 0, .slice none 0 0] 46)) := (alloc_below w _).trans ((alloc_below (w.alloc (.cells #[.slice VA vs.length vc, .slice LA ls.length lc] 46)) _).mono (alloc_below w _).size)
  have hk1 := (Blk.new w #[.slice VA vs.length vc, .slice LA ls.length lc] 46).past (.cells #[.slice none 0 0, .slice none 0 0] 46)
  have hk2 := Blk.new (w.alloc (.cells #[.slice VA vs.length vc, .slice LA ls.length lc] 46)) #[.slice none 0 0, .slice none 0 0] 46
  rw [show (w.alloc (.cells #[.slice VA vs.length vc, .slice LA ls.length lc] 46)).heap.size = w.heap.size + 1 by simp] at hk2
  have HB0 := Lib.hid hb0
  have HK1 := Lib.hid hk1
  have HK2 := Lib.hid hk2
  have c0 := hk1.cell 0 (.slice VA vs.length vc) rfl
  have c1 := hk1.cell 1 (.slice LA ls.length lc) rfl
  have z0 := hk2.cell 0 (.slice none 0 0) rfl
  have z1 := hk2.cell 1 (.slice none 0 0) rfl
  have HV := Lib.hid (fun W (hW : Below w.heap.size w W) => cloneI_any VA vs.length vc vs W (hv.below hW) h1)
  have HL := Lib.hid (fun W (hW : Below w.heap.size w W) => cloneI_any LA ls.length lc ls W (hl.below hW) h2)
  have HN1 := Lib.hid (show vs.length ≤ 1000000 by omega)
  have HN2 := Lib.hid (show ls.length ≤ 1000000 by omega)
  unfold grpV CpIs
  generalize hwb : (w.alloc (.cells #[.slice VA vs.length vc, .slice LA ls.length lc] 46)).alloc (.cells #[.slice none 0 0, .slice none 0 0] 46) = wb at *
  have HDW := Lib.hid (below_d1 wb)
  subst hwb
  clear hb0 hk1 hk2 hv hl
  go_enter Tryz.func95, Tryz.ntmps95
  go_wp2_with fail
  go_region_held3 (fun w' => w'.cell? ⟨w.heap.size, 0, none⟩ = some (.slice VA vs.length vc) ∧ w'.cell? ⟨w.heap.size, 1, none⟩ = some (.slice LA ls.length lc)) (first | exact ⟨by assumption, by assumption⟩ | go_keep) (first
    | (go_at_call 151; have _ := HO1; refine (HL.out _ (by first | exact HB1.out)).mono ?_; rintro e w2 ⟨v2, rfl, hO2⟩; obtain ⟨A2, k2, rfl, hr2, _⟩ := hO2.form (by exact HN2.out); have HO2 := Lib.hid hO2; have HR2 := Lib.hid hr2; have HBB2 := Lib.hid (HBB1.out.trans (hO2.1.mono HBB1.out.size)); have d0 := (HK1.out.below HBB2.out).cell 0 _ rfl; have d1 := (HK1.out.below HBB2.out).cell 1 _ rfl; have y0 := (HK2.out.below HBB2.out).cell 0 _ rfl; have y1 := (HK2.out.below HBB2.out).cell 1 _ rfl; have f0 := Blk.free (HK2.out.below HBB2.out) 0; have f1 := Blk.free (HK2.out.below HBB2.out) 1; clear hO2 hr2)
    | (go_at_call 151; refine (HV.out _ (by exact HB0.out.drew)).mono ?_; rintro e w1 ⟨v1, rfl, hO1⟩; obtain ⟨A1, k1, rfl, hr1, _⟩ := hO1.form (by exact HN1.out); have HO1 := Lib.hid hO1; have HR1 := Lib.hid hr1; have HBB1 := Lib.hid (HDW.out.trans hO1.1); have HB1 := Lib.hid (HB0.out.trans (HBB1.out.mono HB0.out.size)); have c0 := (HK1.out.below HBB1.out).cell 0 _ rfl; have c1 := (HK1.out.below HBB1.out).cell 1 _ rfl; clear hO1 hr1))
  all_goals
    go_wp2
    have hK := HK2.out.below HBB2.out
    have hG := heap_setCell_same _ (w.heap.size + 1) 1 _ _ (.slice A2 ls.length k2) (heap_setCell_same w2 (w.heap.size + 1) 0 _ _ (.slice A1 vs.length k1) hK)
    refine bodyPost_ret (results_cell_row rfl _ _ (w.heap.size + 1) _ #[.slice A1 vs.length k1, .slice A2 ls.length k2] (0, 0) _ rfl hG Tryz.underlying46 rfl (by kernel_rfl)) rfl ?_
    have hf : Dk.Fr [w.heap.size + 1] w2 ((w2.setCell ⟨w.heap.size + 1, 0, none⟩ (.slice A1 vs.length k1)).setCell ⟨w.heap.size + 1, 1, none⟩ (.slice A2 ls.length k2)) := ((Dk.Fr.refl _ _).setCell _ (.inl (by simp)) _).setCell _ (.inl (by simp)) _
    have hs0 : ((w.alloc (.cells #[.slice VA vs.length vc, .slice LA ls.length lc] 46)).alloc (.cells #[.slice none 0 0, .slice none 0 0] 46)).drew.heap.size = w.heap.size + 2 := by show ((w.alloc (.cells #[.slice VA vs.length vc, .slice LA ls.length lc] 46)).alloc (.cells #[.slice none 0 0, .slice none 0 0] 46)).heap.size = _; simp
    have ho1 := ownI_lt HO1.out
    have ho2 := ownI_lt HO2.out
    have hs1 := HO1.out.1.size
    have hs2 := HO2.out.1.size
    have hs3 := hf.size
    refine ⟨A1, k1, A2, k2, rfl, rdI_fr (HR1.out.below HO2.out.1) hf ?_, rdI_fr HR2.out hf ?_, ?_, ?_, Dk.Fr.to_below (HB0.out.trans (HBB2.out.mono HB0.out.size)) hf (by intro i hi; simp at hi; omega)⟩
    · intro a ha hm
      have := ho1 a ha
      simp at hm
      omega
    · intro a ha hm
      have := ho2 a ha
      simp at hm
      omega
    · intro a ha
      have := ho1 a ha
      omega
    · intro a ha
      have := ho2 a ha
      omega
theorem role_any (p : Pl) (s : St) (w : World) (h : Im w p s) : Calls Tryz.prog 12 #[.pointer (some ⟨p.g, 0, none⟩)] w fun e w' => e = .returned (.int .i64 s.role) ∧ w = w' := by
  have c6 := h.blk.cells.2.2.2.2.2.2.1
  clear h
  go_enter Tryz.func12, Tryz.ntmps12
  go_wp2
  go_ret
  exact ⟨rfl, rfl⟩
theorem hard_any (p : Pl) (s : St) (w : World) (h : Im w p s) : Calls Tryz.prog 27 #[.pointer (some ⟨p.g, 0, none⟩)] w fun e w' => e = .returned (.agg #[.int .i64 s.term, .int .i64 s.vote]) ∧ Below w.heap.size w w' := by
  have hal := alloc_below w (.cells #[.int .i64 0, .int .i64 0] 51)
  have hi := h.below hal
  have c2 := hi.blk.cells.2.2.1
  have c3 := hi.blk.cells.2.2.2.1
  have HK := Lib.hid (Blk.new w #[.int .i64 s.term, .int .i64 s.vote] 51)
  have HB := Lib.hid (alloc_below w (.cells #[.int .i64 s.term, .int .i64 s.vote] 51))
  clear h hal hi
  go_enter Tryz.func27, Tryz.ntmps27
  go_wp2
  refine bodyPost_ret (results_cell_row rfl _ _ w.heap.size _ #[.int .i64 s.term, .int .i64 s.vote] (0, 0) _ rfl HK.out Tryz.underlying51 rfl (by kernel_rfl)) rfl ?_
  exact ⟨rfl, HB.out⟩
set_option maxHeartbeats 1600000 in
theorem heard_any (p : Pl) (s : St) (frm t : Int) (w : World) (h : Im w p s) : Calls Tryz.prog 155 #[.pointer (some ⟨p.g, 0, none⟩), .int .i64 frm, .int .i64 t] w fun e w' => e = .returned (.bool (hears s frm t)) ∧ Did w w' p (heard s frm t) := by
  obtain ⟨_, _, c2, _, _, _, c6, c7, c8, _, _⟩ := h.blk.cells
  have HI := Lib.hid h
  have HO := Lib.hid (isOther_any p s frm w h)
  have HD := Lib.hid (Did.same h (Below.refl _ _))
  have HE := Lib.hid (show hears s frm t = (other s frm && (decide (s.term ≤ t) && (decide (t ≤ MX) && !(decide (t = s.term) && decide (s.role = 3))))) from rfl)
  have HH := Lib.hid (fun (e : hears s frm t = false) => show heard s frm t = s by unfold heard; rw [e]; rfl)
  cases ho : other s frm with
  | false =>
    rw [ho] at HO
    have HF := Lib.hid (show hears s frm t = false by rw [HE.out, ho]; rfl)
    clear h ho
    go_enter Tryz.func155, Tryz.ntmps155
    go_wp2_with (go_at_call 228; refine HO.out.mono ?_; rintro e w' ⟨rfl, rfl⟩)
    go_ret
    exact ⟨by rw [HF.out]; rfl, by rw [HH.out HF.out]; exact HD.out⟩
  | true =>
    rw [ho] at HO
    by_cases h1 : t < s.term
    · have d1 : decide (t < s.term) = true := decide_eq_true h1
      have HF := Lib.hid (show hears s frm t = false by rw [HE.out, show decide (s.term ≤ t) = false by simp; omega]; simp)
      clear h ho h1
      go_enter Tryz.func155, Tryz.ntmps155
      go_wp2_with (go_at_call 228; refine HO.out.mono ?_; rintro e w' ⟨rfl, rfl⟩)
      go_ret
      exact ⟨by rw [HF.out]; rfl, by rw [HH.out HF.out]; exact HD.out⟩
    have d1 : decide (t < s.term) = false := decide_eq_false h1
    by_cases h2 : 1099511627776 < t
    · have d2 : decide (1099511627776 < t) = true := decide_eq_true h2
      have HF := Lib.hid (show hears s frm t = false by rw [HE.out, show decide (t ≤ MX) = false by simp; exact h2]; simp)
      clear h ho h1 h2
      go_enter Tryz.func155, Tryz.ntmps155
      go_wp2_with (go_at_call 228; refine HO.out.mono ?_; rintro e w' ⟨rfl, rfl⟩)
      go_ret
      exact ⟨by rw [HF.out]; rfl, by rw [HH.out HF.out]; exact HD.out⟩
    have d2 : decide (1099511627776 < t) = false := decide_eq_false h2
    have hT : okTerm t = true := (okTerm_iff _).2 ⟨by have := ((okHard_iff _ _).1 h.ok.hard).1.1; omega, by show t ≤ 1099511627776; omega⟩
    have hfr := (okNode_iff frm).1 (by simp only [other, Bool.and_eq_true] at ho; exact ho.1)
    by_cases h3 : t = s.term
    · have q3 : (t == s.term) = true := by simp [h3]
      have d4 : decide (s.term < t) = false := by simp; omega
      by_cases h4 : s.role = 3
      · have q4 : (s.role == 3) = true := by simp [h4]
        have HF := Lib.hid (show hears s frm t = false by rw [HE.out]; simp [h3, h4])
        clear h ho h1 h2 h3 h4
        go_enter Tryz.func155, Tryz.ntmps155
        go_wp2_with (go_at_call 228; refine HO.out.mono ?_; rintro e w' ⟨rfl, rfl⟩)
        go_ret
        exact ⟨by rw [HF.out]; rfl, by rw [HH.out HF.out]; exact HD.out⟩
      · have q4 : (s.role == 3) = false := by simpa using h4
        have HF := Lib.hid (show hears s frm t = true by have hMX : MX = 1099511627776 := rfl; rw [HE.out, ho]; simp [h3, h4]; omega)
        have HX := Lib.hid (show heard s frm t = { s with role := 0, lead := frm, wait := 0 } by unfold heard; rw [HF.out, if_pos rfl, if_neg (by omega)])
        have s1 := h.set 6 (.int .i64 0) (s' := { s with role := 0 }) rfl (by omega) rfl rfl rfl (role_ok h.ok (by omega))
        have s2 := s1.im.set 7 (.int .i64 frm) (s' := { s with role := 0, lead := frm }) rfl (by omega) rfl rfl rfl ⟨s1.im.ok.id1, s1.im.ok.hard, s1.im.ok.grp, s1.im.ok.pat1, s1.im.ok.w0, s1.im.ok.lm, s1.im.ok.role, by show 0 ≤ frm ∧ frm ≤ 15; omega, s1.im.ok.am⟩
        have s3 := s2.im.set 8 (.int .i64 0) (s' := { s with role := 0, lead := frm, wait := 0 }) rfl (by omega) rfl rfl rfl ⟨s2.im.ok.id1, s2.im.ok.hard, s2.im.ok.grp, s2.im.ok.pat1, Int.le_refl _, s2.im.ok.lm, s2.im.ok.role, s2.im.ok.lead, s2.im.ok.am⟩
        have HD3 := Lib.hid ((s1.then s2).then s3)
        have f6 := Blk.free h.blk 6
        have f7 := Blk.free s1.im.blk 7
        have f8 := Blk.free s2.im.blk 8
        clear h ho h1 h2 h3 h4 s1 s2 s3
        go_enter Tryz.func155, Tryz.ntmps155
        go_wp2_with (go_at_call 228; refine HO.out.mono ?_; rintro e w' ⟨rfl, rfl⟩)
        go_ret
        exact ⟨by rw [HF.out]; rfl, by rw [HX.out]; exact HD3.out⟩
    · have q3 : (t == s.term) = false := by simpa using h3
      have d4 : decide (s.term < t) = true := by simp; omega
      have HF := Lib.hid (show hears s frm t = true by have hMX : MX = 1099511627776 := rfl; rw [HE.out, ho]; simp [h3]; omega)
      have HX := Lib.hid (show heard s frm t = { down s t with role := 0, lead := frm, wait := 0 } by unfold heard; rw [HF.out, if_pos rfl, if_pos (by omega)])
      have HSD := Lib.hid (stepDown_any p s t w h hT)
      clear h ho h1 h2 h3
      go_enter Tryz.func155, Tryz.ntmps155
      go_wp2_with (first | (go_at_call 228; refine HO.out.mono ?_; rintro e w' ⟨rfl, rfl⟩) | (go_at_call 234; refine HSD.out.mono ?_; rintro e w1 ⟨rfl, hd1⟩; have s1 := hd1.im.set 6 (.int .i64 0) (s' := { down s t with role := 0 }) rfl (by omega) rfl rfl rfl (role_ok hd1.im.ok (by omega)); have s2 := s1.im.set 7 (.int .i64 frm) (s' := { down s t with role := 0, lead := frm }) rfl (by omega) rfl rfl rfl ⟨s1.im.ok.id1, s1.im.ok.hard, s1.im.ok.grp, s1.im.ok.pat1, s1.im.ok.w0, s1.im.ok.lm, s1.im.ok.role, (by show 0 ≤ frm ∧ frm ≤ 15; omega), s1.im.ok.am⟩; have s3 := s2.im.set 8 (.int .i64 0) (s' := { down s t with role := 0, lead := frm, wait := 0 }) rfl (by omega) rfl rfl rfl ⟨s2.im.ok.id1, s2.im.ok.hard, s2.im.ok.grp, s2.im.ok.pat1, Int.le_refl _, s2.im.ok.lm, s2.im.ok.role, s2.im.ok.lead, s2.im.ok.am⟩; have HD3 := Lib.hid (((hd1.then s1).then s2).then s3); have f6 := Blk.free hd1.im.blk 6; have f7 := Blk.free s1.im.blk 7; have f8 := Blk.free s2.im.blk 8; have e6 := hd1.im.blk.cells.2.2.2.2.2.2.1; have e7 := hd1.im.blk.cells.2.2.2.2.2.2.2.1; have e8 := hd1.im.blk.cells.2.2.2.2.2.2.2.2.1; clear s1 s2 s3 hd1))
      go_ret
      exact ⟨by rw [HF.out]; rfl, by rw [HX.out]; exact HD3.out⟩
end Go.Proofs.YtnhcbampojpgfaaGreat.El
