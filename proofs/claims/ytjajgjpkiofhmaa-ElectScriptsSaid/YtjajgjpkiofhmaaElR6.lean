/-
  Layer 10, the document's own: Heard, RightHard, New, Join. Conditions: as each theorem states.
-/
import Derived.Test.YtjajgjpkiofhmaaElR1
import Derived.Test.YtjajgjpkiofhmaaElN2
namespace Go.Proofs.Ytjajgjpkiofhmaa.El
open Go.RowKit Go.Proofs.Ytjajgjpkiofhmaa.Qu Go.Proofs.Ytjajgjpkiofhmaa.Fld
set_option linter.unusedVariables false

set_option maxRecDepth 100000 in
set_option maxHeartbeats 3200000 in
theorem rheard_any {lo N : Nat} (q : Ql) (s : St) (frm t : Int) (w : World) (h : Rm lo N w q s) : Calls Try.prog 18 #[.pointer (some ⟨q.g, 0, none⟩), .int .i64 frm, .int .i64 t] w fun e w' => e = .returned (.bool (hears s frm t)) ∧ ∃ q', RD lo N w w' q q' (heard s frm t) ∧ q'.g = q.g := by
  obtain ⟨c0, c1, _, _, _, _, c6, c7, c8, _, _, _⟩ := h.rb.cells
  have HI := Lib.hid h
  have HD := Lib.hid (RD.same h (Below.refl _ _))
  have HE := Lib.hid (show hears s frm t = (((decide (1 ≤ frm) && decide (frm ≤ 15)) && decide (frm ≠ s.id)) && (decide (s.term ≤ t) && (decide (t ≤ MX) && !(decide (t = s.term) && decide (s.role = 3))))) from rfl)
  have HH := Lib.hid (fun (e : hears s frm t = false) => show heard s frm t = s by unfold heard; rw [e]; rfl)
  have HT0 := Lib.hid ((okHard_iff _ _).1 h.rb.ok.hard).1.1
  clear h
  by_cases a0 : frm < 1
  · have q0 : decide (frm < 1) = true := decide_eq_true a0
    have HF := Lib.hid (show hears s frm t = false by have hMX : MX = 1099511627776 := rfl; rw [HE.out]; simp; omega)
    clear a0 HE HI HT0
    go_enter Try.func18, Try.ntmps18
    go_wp2_with fail
    go_ret
    exact ⟨by rw [HF.out]; rfl, q, by rw [HH.out HF.out]; exact HD.out, rfl⟩
  have q0 : decide (frm < 1) = false := decide_eq_false a0
  by_cases a1 : 15 < frm
  · have q1 : decide (15 < frm) = true := decide_eq_true a1
    have HF := Lib.hid (show hears s frm t = false by have hMX : MX = 1099511627776 := rfl; rw [HE.out]; simp; omega)
    clear a0 a1 HE HI HT0
    go_enter Try.func18, Try.ntmps18
    go_wp2_with fail
    go_ret
    exact ⟨by rw [HF.out]; rfl, q, by rw [HH.out HF.out]; exact HD.out, rfl⟩
  have q1 : decide (15 < frm) = false := decide_eq_false a1
  by_cases a2 : frm = s.id
  · have q2 : (frm == s.id) = true := by simp [a2]
    have HF := Lib.hid (show hears s frm t = false by have hMX : MX = 1099511627776 := rfl; rw [HE.out]; simp; omega)
    clear a0 a1 a2 HE HI HT0
    go_enter Try.func18, Try.ntmps18
    go_wp2_with fail
    go_ret
    exact ⟨by rw [HF.out]; rfl, q, by rw [HH.out HF.out]; exact HD.out, rfl⟩
  have q2 : (frm == s.id) = false := by simpa using a2
  by_cases a3 : t < s.term
  · have q3 : decide (t < s.term) = true := decide_eq_true a3
    have HF := Lib.hid (show hears s frm t = false by have hMX : MX = 1099511627776 := rfl; rw [HE.out]; simp; omega)
    clear a0 a1 a2 a3 HE HI HT0
    go_enter Try.func18, Try.ntmps18
    go_wp2_with fail
    go_ret
    exact ⟨by rw [HF.out]; rfl, q, by rw [HH.out HF.out]; exact HD.out, rfl⟩
  have q3 : decide (t < s.term) = false := decide_eq_false a3
  by_cases a4 : 1099511627776 < t
  · have q4 : decide (1099511627776 < t) = true := decide_eq_true a4
    have HF := Lib.hid (show hears s frm t = false by have hMX : MX = 1099511627776 := rfl; rw [HE.out]; simp; omega)
    clear a0 a1 a2 a3 a4 HE HI HT0
    go_enter Try.func18, Try.ntmps18
    go_wp2_with fail
    go_ret
    exact ⟨by rw [HF.out]; rfl, q, by rw [HH.out HF.out]; exact HD.out, rfl⟩
  have q4 : decide (1099511627776 < t) = false := decide_eq_false a4
  by_cases a5 : t = s.term
  · have q5 : (t == s.term) = true := by simp [a5]
    by_cases a6 : s.role = 3
    · have q6 : (s.role == 3) = true := by simp [a6]
      have HF := Lib.hid (show hears s frm t = false by have hMX : MX = 1099511627776 := rfl; rw [HE.out]; simp; omega)
      clear a0 a1 a2 a3 a4 a5 a6 HE HI HT0
      go_enter Try.func18, Try.ntmps18
      go_wp2_with fail
      go_ret
      exact ⟨by rw [HF.out]; rfl, q, by rw [HH.out HF.out]; exact HD.out, rfl⟩
    · have q6 : (s.role == 3) = false := by simpa using a6
      have d7 : decide (s.term < t) = false := by simp; omega
      have HF := Lib.hid (show hears s frm t = true by have hMX : MX = 1099511627776 := rfl; rw [HE.out]; simp; omega)
      have HX := Lib.hid (show heard s frm t = { s with role := 0, lead := frm, wait := 0 } by unfold heard; rw [HF.out, if_pos rfl, if_neg (by omega)])
      have h := HI.out
      have s1 := h.rb.set 6 (.int .i64 0) (s' := { s with role := 0 }) rfl (by omega) rfl rfl (role_ok h.rb.ok (by omega))
      have s2 := s1.rb.set 7 (.int .i64 frm) (s' := { s with role := 0, lead := frm }) rfl (by omega) rfl rfl ⟨s1.rb.ok.id1, s1.rb.ok.hard, s1.rb.ok.grp, s1.rb.ok.pat1, s1.rb.ok.w0, s1.rb.ok.lm, s1.rb.ok.role, by show 0 ≤ frm ∧ frm ≤ 15; omega, s1.rb.ok.am⟩
      have s3 := s2.rb.set 8 (.int .i64 0) (s' := { s with role := 0, lead := frm, wait := 0 }) rfl (by omega) rfl rfl ⟨s2.rb.ok.id1, s2.rb.ok.hard, s2.rb.ok.grp, s2.rb.ok.pat1, Int.le_refl _, s2.rb.ok.lm, s2.rb.ok.role, s2.rb.ok.lead, s2.rb.ok.am⟩
      have HD3 := Lib.hid (((s1.then s2).then s3).rd h.hy h.hn)
      have f6 := Blk.free h.rb.blk 6
      have f7 := Blk.free s1.rb.blk 7
      have f8 := Blk.free s2.rb.blk 8
      clear h a0 a1 a2 a3 a4 a5 a6 s1 s2 s3 HE HI HT0
      go_enter Try.func18, Try.ntmps18
      go_wp2_with fail
      go_ret
      exact ⟨by rw [HF.out]; rfl, q, by rw [HX.out]; exact HD3.out, rfl⟩
  · have q5 : (t == s.term) = false := by simpa using a5
    have d7 : decide (s.term < t) = true := by simp; omega
    have HF := Lib.hid (show hears s frm t = true by have hMX : MX = 1099511627776 := rfl; rw [HE.out]; simp; omega)
    have HX := Lib.hid (show heard s frm t = { down s t with role := 0, lead := frm, wait := 0 } by unfold heard; rw [HF.out, if_pos rfl, if_pos (by omega)])
    have hT : okTerm t = true := (okTerm_iff _).2 ⟨by have := HT0.out; omega, by show t ≤ 1099511627776; omega⟩
    have HSD := Lib.hid (rdown_any q s t w HI.out hT)
    have HFR := Lib.hid (show 0 ≤ frm ∧ frm ≤ 15 by omega)
    clear hT a0 a1 a2 a3 a4 a5 HE HI HT0
    go_enter Try.func18, Try.ntmps18
    go_wp2_with fail
    refine HSD.out.mono ?_
    rintro e w1 ⟨rfl, q1, h, hg⟩
    have HG := Lib.hid hg
    have s1 := h.rm.rb.set 6 (.int .i64 0) (s' := { down s t with role := 0 }) rfl (by omega) rfl rfl (role_ok h.rm.rb.ok (by omega))
    have s2 := s1.rb.set 7 (.int .i64 frm) (s' := { down s t with role := 0, lead := frm }) rfl (by omega) rfl rfl ⟨s1.rb.ok.id1, s1.rb.ok.hard, s1.rb.ok.grp, s1.rb.ok.pat1, s1.rb.ok.w0, s1.rb.ok.lm, s1.rb.ok.role, HFR.out, s1.rb.ok.am⟩
    have s3 := s2.rb.set 8 (.int .i64 0) (s' := { down s t with role := 0, lead := frm, wait := 0 }) rfl (by omega) rfl rfl ⟨s2.rb.ok.id1, s2.rb.ok.hard, s2.rb.ok.grp, s2.rb.ok.pat1, Int.le_refl _, s2.rb.ok.lm, s2.rb.ok.role, s2.rb.ok.lead, s2.rb.ok.am⟩
    have hd := h.then (((s1.then s2).then s3).rd h.rm.hy h.rm.hn)
    have f6 := Blk.free h.rm.rb.blk 6
    have f7 := Blk.free s1.rb.blk 7
    have f8 := Blk.free s2.rb.blk 8
    obtain ⟨_, _, _, _, _, _, e6, e7, e8, _⟩ := h.rm.rb.cells
    rw [hg] at f6 f7 f8 e6 e7 e8 hd
    have HD3 := Lib.hid hd
    clear h s1 s2 s3 hg hd
    go_wp2_with fail
    go_ret
    exact ⟨by rw [HF.out]; rfl, q1, by rw [HX.out]; exact HD3.out, HG.out⟩
set_option maxRecDepth 100000 in
set_option maxHeartbeats 1600000 in
theorem rightHard_any (t v : Int) (w : World) : Calls Try.prog 33 #[.agg #[.int .i64 t, .int .i64 v]] w fun e w' => e = .returned (.bool (okHard t v)) ∧ Below w.heap.size w w' := by
  have HB := Lib.hid (alloc_below w (.cells #[.int .i64 t, .int .i64 v] 23))
  have hk := Blk.new w #[.int .i64 t, .int .i64 v] 23
  have c0 := hk.cell 0 (.int .i64 t) rfl
  have c1 := hk.cell 1 (.int .i64 v) rfl
  obtain ⟨R, hR⟩ : ∃ R, okHard t v = R := ⟨_, rfl⟩
  have HR := Lib.hid (show R = true ↔ (0 ≤ t ∧ t ≤ 1099511627776) ∧ (0 ≤ v ∧ v ≤ 15) by rw [← hR, okHard_iff]; show (0 ≤ t ∧ t ≤ 1099511627776) ∧ _ ↔ _; omega)
  rw [hR]
  clear hk hR
  by_cases a0 : 0 ≤ t
  rotate_left
  · have d0 : decide (0 ≤ t) = false := decide_eq_false a0
    have HT := Lib.hid (show R = false from Bool.eq_false_iff.2 fun e => by have := HR.out.1 e; omega)
    clear a0
    go_enter Try.func33, Try.ntmps33
    go_wp2_with fail
    go_ret
    exact ⟨by rw [HT.out]; rfl, HB.out⟩
  have d0 : decide (0 ≤ t) = true := decide_eq_true a0
  by_cases a1 : t ≤ 1099511627776
  rotate_left
  · have d1 : decide (t ≤ 1099511627776) = false := decide_eq_false a1
    have HT := Lib.hid (show R = false from Bool.eq_false_iff.2 fun e => by have := HR.out.1 e; omega)
    clear a0 a1
    go_enter Try.func33, Try.ntmps33
    go_wp2_with fail
    go_ret
    exact ⟨by rw [HT.out]; rfl, HB.out⟩
  have d1 : decide (t ≤ 1099511627776) = true := decide_eq_true a1
  by_cases a2 : 0 ≤ v
  rotate_left
  · have d2 : decide (0 ≤ v) = false := decide_eq_false a2
    have HT := Lib.hid (show R = false from Bool.eq_false_iff.2 fun e => by have := HR.out.1 e; omega)
    clear a0 a1 a2
    go_enter Try.func33, Try.ntmps33
    go_wp2_with fail
    go_ret
    exact ⟨by rw [HT.out]; rfl, HB.out⟩
  have d2 : decide (0 ≤ v) = true := decide_eq_true a2
  by_cases a3 : v ≤ 15
  rotate_left
  · have d3 : decide (v ≤ 15) = false := decide_eq_false a3
    have HT := Lib.hid (show R = false from Bool.eq_false_iff.2 fun e => by have := HR.out.1 e; omega)
    clear a0 a1 a2 a3
    go_enter Try.func33, Try.ntmps33
    go_wp2_with fail
    go_ret
    exact ⟨by rw [HT.out]; rfl, HB.out⟩
  have d3 : decide (v ≤ 15) = true := decide_eq_true a3
  have HT := Lib.hid (show R = true from HR.out.2 ⟨⟨a0, a1⟩, a2, a3⟩)
  clear a0 a1 a2 a3
  go_enter Try.func33, Try.ntmps33
  go_wp2_with fail
  go_ret
  exact ⟨by rw [HT.out]; rfl, HB.out⟩
/-- a node of the document that was made behind a world -/
structure MadeR (lo N : Nat) (w w' : World) (q : Ql) (s : St) : Prop where
  rm : Rm lo N w' q s
  bel : Below w.heap.size w w'
  new : ∀ i ∈ q.foot, w.heap.size ≤ i
def ql0 (w : World) (VA : Option Addr) (vc : Nat) (LA : Option Addr) (lc : Nat) : Ql := ⟨w.heap.size, VA, vc, LA, lc, .slice none 0 0, .slice none 0 0, [], []⟩
theorem madeR_of {lo N : Nat} {w : World} {id t v pat : Int} {vs ls : List Int} {VA LA : Option Addr} {vc lc : Nat} (hlo : lo ≤ w.heap.size) (hn : newOk id t v vs ls pat = true) (hv : RdI w VA vs.length vs) (hl : RdI w LA ls.length ls) (va : ∀ a, VA = some a → 0 < vs.length → a.block < lo) (la : ∀ a, LA = some a → 0 < ls.length → a.block < lo) :
    MadeR lo N w (w.alloc (.cells (rnC (ql0 w VA vc LA lc) (st0 id t v vs ls pat)) 51)) (ql0 w VA vc LA lc) (st0 id t v vs ls pat) := by
  have hal := alloc_below w (.cells (rnC (ql0 w VA vc LA lc) (st0 id t v vs ls pat)) 51)
  refine ⟨⟨⟨Blk.new w _ _, row_nil _ _ _ _, row_nil _ _ _ _, fun i hi => (by cases hi), hv.below hal, hl.below hal, va, la, hlo, Nat.zero_le _, Nat.zero_le _, st0_ok hn⟩, none_y, none_n⟩, hal, fun i hi => ?_⟩
  rcases mem_foot.1 hi with rfl | hi | hi
  · exact Nat.le_refl _
  · cases hi
  · cases hi
set_option maxRecDepth 100000 in
set_option maxHeartbeats 3200000 in
theorem rjoin_ok {lo N : Nat} (q : Ql) (s : St) (VA : Option Addr) (vc : Nat) (vs : List Int) (LA : Option Addr) (lc : Nat) (ls : List Int) (w : World) (h : Rm lo N w q s) (hv : RdI w VA vs.length vs) (hl : RdI w LA ls.length ls) (hg : grpOk vs ls = true) (va : ∀ a, VA = some a → 0 < vs.length → a.block < lo) (la : ∀ a, LA = some a → 0 < ls.length → a.block < lo) :
    Calls Try.prog 20 #[.pointer (some ⟨q.g, 0, none⟩), grpV VA vs.length vc LA ls.length lc] w fun e w' => e = .returned (.int .i64 0) ∧ RD lo N w w' q { q with VA := VA, vc := vc, LA := LA, lc := lc } { s with vs := vs, ls := ls } := by
  have hal := alloc_below w (.cells #[.slice VA vs.length vc, .slice LA ls.length lc] 26)
  have hk := Blk.new w #[.slice VA vs.length vc, .slice LA ls.length lc] 26
  have HAL := Lib.hid hal
  have HIW := Lib.hid (fun W (hW : Below w.heap.size w W) => h.below hW)
  have HK := Lib.hid (fun W hW => hk.below (w' := W) hW)
  have HJ := Lib.hid (El.join_ok h.rb.ok hg)
  have HVA := Lib.hid va
  have HLA := Lib.hid la
  have HRT := Lib.hid (rightGroup_any VA vs.length vc vs LA ls.length lc ls _ (hv.below hal) (hl.below hal))
  rw [hg] at HRT
  have HVW := Lib.hid (fun W (hW : Below w.heap.size w W) => And.intro (hv.below hW) (hl.below hW))
  have g0 := hk.cell 0 (.slice VA vs.length vc) rfl
  have g1 := hk.cell 1 (.slice LA ls.length lc) rfl
  unfold grpV at HRT ⊢
  clear h hal hk hv hl hg va la
  go_enter Try.func20, Try.ntmps20
  go_wp2_with fail
  refine HRT.out.mono ?_
  rintro e w1 ⟨rfl, hb1⟩
  have HB1 := Lib.hid (HAL.out.trans (hb1.mono HAL.out.size))
  have k1 := HK.out w1 hb1
  have g0 := k1.cell 0 _ rfl
  have g1 := k1.cell 1 _ rfl
  have HI1 := Lib.hid (HIW.out w1 HB1.out)
  obtain ⟨_, _, _, c3, c4, _⟩ := HI1.out.rb.cells
  have f3 := Blk.free HI1.out.rb.blk 3
  have f4 := Blk.free HI1.out.rb.blk 4
  clear hb1 k1
  go_wp2_with fail
  go_ret
  have h := HI1.out
  obtain ⟨e1, e2⟩ := h.rb.gne
  have hf : Dk.Fr [q.g] w1 ((w1.setCell ⟨q.g, 3, none⟩ (.slice VA vs.length vc)).setCell ⟨q.g, 4, none⟩ (.slice LA ls.length lc)) := ((Dk.Fr.refl _ _).setCell _ (.inl (by simp)) _).setCell _ (.inl (by simp)) _
  have hlo := h.rb.lg
  have hgl := Blk.lt h.rb.blk
  have hB := Blk.set (Blk.set h.rb.blk 3 (.slice VA vs.length vc) (by show 3 < 12; omega)) 4 (.slice LA ls.length lc) (by show 4 < 12; omega)
  have hd : RD lo N w1 ((w1.setCell ⟨q.g, 3, none⟩ (.slice VA vs.length vc)).setCell ⟨q.g, 4, none⟩ (.slice LA ls.length lc)) q { q with VA := VA, vc := vc, LA := LA, lc := lc } { s with vs := vs, ls := ls } := by
    refine ⟨⟨⟨hB, row_of h.rb.ry fun i hi => hf.block i (row_lo h.rb.ry i hi).2 (fun hm => e1 (by simp at hm; rw [hi, hm])), row_of h.rb.rn fun i hi => hf.block i (row_lo h.rb.rn i hi).2 (fun hm => e2 (by simp at hm; rw [hi, hm])), h.rb.yn, rdI_fr2 (HVW.out w1 HB1.out).1 hf (fun a ha hn hm => by have := HVA.out a ha hn; simp at hm; omega), rdI_fr2 (HVW.out w1 HB1.out).2 hf (fun a ha hn hm => by have := HLA.out a ha hn; simp at hm; omega), HVA.out, HLA.out, hlo, h.rb.ny, h.rb.nn, HJ.out⟩, h.hy, h.hn⟩, hf.mono (fun i hi => by simp at hi; subst hi; exact mem_foot.2 (.inl rfl)), fun i hi => .inl hi⟩
  exact ⟨rfl, RD.past HB1.out hd⟩
theorem rjoin_bad {lo N : Nat} (q : Ql) (s : St) (VA : Option Addr) (vc : Nat) (vs : List Int) (LA : Option Addr) (lc : Nat) (ls : List Int) (w : World) (h : Rm lo N w q s) (hv : RdI w VA vs.length vs) (hl : RdI w LA ls.length ls) (hg : grpOk vs ls = false) :
    Calls Try.prog 20 #[.pointer (some ⟨q.g, 0, none⟩), grpV VA vs.length vc LA ls.length lc] w fun e w' => e = .returned (.int .i64 1) ∧ Below w.heap.size w w' := by
  have hal := alloc_below w (.cells #[.slice VA vs.length vc, .slice LA ls.length lc] 26)
  have hk := Blk.new w #[.slice VA vs.length vc, .slice LA ls.length lc] 26
  have HAL := Lib.hid hal
  have HRT := Lib.hid (rightGroup_any VA vs.length vc vs LA ls.length lc ls _ (hv.below hal) (hl.below hal))
  rw [hg] at HRT
  have g0 := hk.cell 0 (.slice VA vs.length vc) rfl
  have g1 := hk.cell 1 (.slice LA ls.length lc) rfl
  unfold grpV at HRT ⊢
  clear h hal hk hv hl hg
  go_enter Try.func20, Try.ntmps20
  go_wp2_with fail
  refine HRT.out.mono ?_
  rintro e w1 ⟨rfl, hb1⟩
  have HB1 := Lib.hid (HAL.out.trans (hb1.mono HAL.out.size))
  clear hb1
  go_wp2
  go_ret
  exact ⟨rfl, HB1.out⟩
set_option maxRecDepth 100000 in
set_option maxHeartbeats 3200000 in
theorem rnew_bad {lo : Nat} (id t v pat : Int) (VA : Option Addr) (vc : Nat) (vs : List Int) (LA : Option Addr) (lc : Nat) (ls : List Int) (w : World) (hv : RdI w VA vs.length vs) (hl : RdI w LA ls.length ls) (hn : newOk id t v vs ls pat = false) :
    Calls Try.prog 11 #[.int .i64 id, .agg #[.int .i64 t, .int .i64 v], grpV VA vs.length vc LA ls.length lc, .int .i64 pat] w fun e w' => e = .returned (.tuple #[.pointer none, .int .i64 1]) ∧ Below w.heap.size w w' := by
  have hb0 := bxN_below w t v VA vs.length vc LA ls.length lc
  obtain ⟨hk1, hk2⟩ := bxN_blk w t v VA vs.length vc LA ls.length lc
  have HB0 := Lib.hid hb0
  have HK := Lib.hid (fun W (hW : Below (bxN w t v VA vs.length vc LA ls.length lc).heap.size (bxN w t v VA vs.length vc LA ls.length lc) W) => And.intro (hk1.below hW) (hk2.below hW))
  have HVH := Lib.hid (fun W => rightHard_any t v W)
  have HRT := Lib.hid (fun W (hW : Below w.heap.size w W) => rightGroup_any VA vs.length vc vs LA ls.length lc ls W (hv.below hW) (hl.below hW))
  have HNO := Lib.hid hn
  have HVW := Lib.hid (fun W (hW : Below w.heap.size w W) => And.intro (hv.below hW) (hl.below hW))
  have h0 := hk1.cell 0 (.int .i64 t) rfl
  have h1 := hk1.cell 1 (.int .i64 v) rfl
  have g0 := hk2.cell 0 (.slice VA vs.length vc) rfl
  have g1 := hk2.cell 1 (.slice LA ls.length lc) rfl
  simp only [newOk, okNode] at hn
  unfold grpV at HRT ⊢
  unfold bxN at *
  generalize okHard t v = bh at *
  generalize grpOk vs ls = bg at *
  clear hb0 hk1 hk2 hv hl HNO
  by_cases a0 : id < 1
  · have d0 : decide (id < 1) = true := decide_eq_true a0
    clear a0 hn
    go_enter Try.func11, Try.ntmps11
    go_wp2_with fail
    refine (HVH.out _).mono ?_
    rintro e w1 ⟨rfl, hb1⟩
    have HB1 := Lib.hid (HB0.out.trans (hb1.mono HB0.out.size))
    have HX1 := Lib.hid hb1
    obtain ⟨ka, kb⟩ := HK.out w1 hb1
    have h0 := ka.cell 0 _ rfl
    have h1 := ka.cell 1 _ rfl
    have g0 := kb.cell 0 _ rfl
    have g1 := kb.cell 1 _ rfl
    clear hb1 ka kb
    go_wp2_with fail
    refine (HRT.out _ HB1.out).mono ?_
    rintro e w2 ⟨rfl, hb2⟩
    have HB2 := Lib.hid (HB1.out.trans (hb2.mono HB1.out.size))
    obtain ⟨ka, kb⟩ := HK.out w2 (HX1.out.trans (hb2.mono HX1.out.size))
    have h0 := ka.cell 0 _ rfl
    have h1 := ka.cell 1 _ rfl
    have g0 := kb.cell 0 _ rfl
    have g1 := kb.cell 1 _ rfl
    clear hb2 ka kb
    go_wp2_with fail
    go_ret2
    exact ⟨rfl, HB2.out⟩
  have d0 : decide (id < 1) = false := decide_eq_false a0
  by_cases a1 : 15 < id
  · have d1 : decide (15 < id) = true := decide_eq_true a1
    clear a0 a1 hn
    go_enter Try.func11, Try.ntmps11
    go_wp2_with fail
    refine (HVH.out _).mono ?_
    rintro e w1 ⟨rfl, hb1⟩
    have HB1 := Lib.hid (HB0.out.trans (hb1.mono HB0.out.size))
    have HX1 := Lib.hid hb1
    obtain ⟨ka, kb⟩ := HK.out w1 hb1
    have h0 := ka.cell 0 _ rfl
    have h1 := ka.cell 1 _ rfl
    have g0 := kb.cell 0 _ rfl
    have g1 := kb.cell 1 _ rfl
    clear hb1 ka kb
    go_wp2_with fail
    refine (HRT.out _ HB1.out).mono ?_
    rintro e w2 ⟨rfl, hb2⟩
    have HB2 := Lib.hid (HB1.out.trans (hb2.mono HB1.out.size))
    obtain ⟨ka, kb⟩ := HK.out w2 (HX1.out.trans (hb2.mono HX1.out.size))
    have h0 := ka.cell 0 _ rfl
    have h1 := ka.cell 1 _ rfl
    have g0 := kb.cell 0 _ rfl
    have g1 := kb.cell 1 _ rfl
    clear hb2 ka kb
    go_wp2_with fail
    go_ret2
    exact ⟨rfl, HB2.out⟩
  have d1 : decide (15 < id) = false := decide_eq_false a1
  cases bh with
  | false =>
    clear a0 a1 hn
    go_enter Try.func11, Try.ntmps11
    go_wp2_with fail
    refine (HVH.out _).mono ?_
    rintro e w1 ⟨rfl, hb1⟩
    have HB1 := Lib.hid (HB0.out.trans (hb1.mono HB0.out.size))
    have HX1 := Lib.hid hb1
    obtain ⟨ka, kb⟩ := HK.out w1 hb1
    have h0 := ka.cell 0 _ rfl
    have h1 := ka.cell 1 _ rfl
    have g0 := kb.cell 0 _ rfl
    have g1 := kb.cell 1 _ rfl
    clear hb1 ka kb
    go_wp2_with fail
    refine (HRT.out _ HB1.out).mono ?_
    rintro e w2 ⟨rfl, hb2⟩
    have HB2 := Lib.hid (HB1.out.trans (hb2.mono HB1.out.size))
    obtain ⟨ka, kb⟩ := HK.out w2 (HX1.out.trans (hb2.mono HX1.out.size))
    have h0 := ka.cell 0 _ rfl
    have h1 := ka.cell 1 _ rfl
    have g0 := kb.cell 0 _ rfl
    have g1 := kb.cell 1 _ rfl
    clear hb2 ka kb
    go_wp2_with fail
    go_ret2
    exact ⟨rfl, HB2.out⟩
  | true =>
  cases bg with
  | false =>
    clear a0 a1 hn
    go_enter Try.func11, Try.ntmps11
    go_wp2_with fail
    refine (HVH.out _).mono ?_
    rintro e w1 ⟨rfl, hb1⟩
    have HB1 := Lib.hid (HB0.out.trans (hb1.mono HB0.out.size))
    have HX1 := Lib.hid hb1
    obtain ⟨ka, kb⟩ := HK.out w1 hb1
    have h0 := ka.cell 0 _ rfl
    have h1 := ka.cell 1 _ rfl
    have g0 := kb.cell 0 _ rfl
    have g1 := kb.cell 1 _ rfl
    clear hb1 ka kb
    go_wp2_with fail
    refine (HRT.out _ HB1.out).mono ?_
    rintro e w2 ⟨rfl, hb2⟩
    have HB2 := Lib.hid (HB1.out.trans (hb2.mono HB1.out.size))
    obtain ⟨ka, kb⟩ := HK.out w2 (HX1.out.trans (hb2.mono HX1.out.size))
    have h0 := ka.cell 0 _ rfl
    have h1 := ka.cell 1 _ rfl
    have g0 := kb.cell 0 _ rfl
    have g1 := kb.cell 1 _ rfl
    clear hb2 ka kb
    go_wp2_with fail
    go_ret2
    exact ⟨rfl, HB2.out⟩
  | true =>
  by_cases a2 : pat < 1
  · have d2 : decide (pat < 1) = true := decide_eq_true a2
    clear a0 a1 a2 hn
    go_enter Try.func11, Try.ntmps11
    go_wp2_with fail
    refine (HVH.out _).mono ?_
    rintro e w1 ⟨rfl, hb1⟩
    have HB1 := Lib.hid (HB0.out.trans (hb1.mono HB0.out.size))
    have HX1 := Lib.hid hb1
    obtain ⟨ka, kb⟩ := HK.out w1 hb1
    have h0 := ka.cell 0 _ rfl
    have h1 := ka.cell 1 _ rfl
    have g0 := kb.cell 0 _ rfl
    have g1 := kb.cell 1 _ rfl
    clear hb1 ka kb
    go_wp2_with fail
    refine (HRT.out _ HB1.out).mono ?_
    rintro e w2 ⟨rfl, hb2⟩
    have HB2 := Lib.hid (HB1.out.trans (hb2.mono HB1.out.size))
    obtain ⟨ka, kb⟩ := HK.out w2 (HX1.out.trans (hb2.mono HX1.out.size))
    have h0 := ka.cell 0 _ rfl
    have h1 := ka.cell 1 _ rfl
    have g0 := kb.cell 0 _ rfl
    have g1 := kb.cell 1 _ rfl
    clear hb2 ka kb
    go_wp2_with fail
    go_ret2
    exact ⟨rfl, HB2.out⟩
  have d2 : decide (pat < 1) = false := decide_eq_false a2
  have d3 : decide (1000 < pat) = true := by
    simp only [Bool.true_and, Bool.and_eq_false_iff, decide_eq_false_iff_not] at hn
    simp
    omega
  clear a0 a1 a2 hn
  go_enter Try.func11, Try.ntmps11
  go_wp2_with fail
  refine (HVH.out _).mono ?_
  rintro e w1 ⟨rfl, hb1⟩
  have HB1 := Lib.hid (HB0.out.trans (hb1.mono HB0.out.size))
  have HX1 := Lib.hid hb1
  obtain ⟨ka, kb⟩ := HK.out w1 hb1
  have h0 := ka.cell 0 _ rfl
  have h1 := ka.cell 1 _ rfl
  have g0 := kb.cell 0 _ rfl
  have g1 := kb.cell 1 _ rfl
  clear hb1 ka kb
  go_wp2_with fail
  refine (HRT.out _ HB1.out).mono ?_
  rintro e w2 ⟨rfl, hb2⟩
  have HB2 := Lib.hid (HB1.out.trans (hb2.mono HB1.out.size))
  obtain ⟨ka, kb⟩ := HK.out w2 (HX1.out.trans (hb2.mono HX1.out.size))
  have h0 := ka.cell 0 _ rfl
  have h1 := ka.cell 1 _ rfl
  have g0 := kb.cell 0 _ rfl
  have g1 := kb.cell 1 _ rfl
  clear hb2 ka kb
  go_wp2_with fail
  go_ret2
  exact ⟨rfl, HB2.out⟩
set_option maxRecDepth 100000 in
set_option maxHeartbeats 3200000 in
theorem rnew_ok {lo : Nat} (id t v pat : Int) (VA : Option Addr) (vc : Nat) (vs : List Int) (LA : Option Addr) (lc : Nat) (ls : List Int) (w : World) (hv : RdI w VA vs.length vs) (hl : RdI w LA ls.length ls) (hn : newOk id t v vs ls pat = true) (hlo : lo ≤ w.heap.size) (va : ∀ a, VA = some a → 0 < vs.length → a.block < lo) (la : ∀ a, LA = some a → 0 < ls.length → a.block < lo) (N : Nat) :
    Calls Try.prog 11 #[.int .i64 id, .agg #[.int .i64 t, .int .i64 v], grpV VA vs.length vc LA ls.length lc, .int .i64 pat] w fun e w' => ∃ q, e = .returned (.tuple #[.pointer (some ⟨q.g, 0, none⟩), .int .i64 0]) ∧ MadeR lo N w w' q (st0 id t v vs ls pat) := by
  have hb0 := bxN_below w t v VA vs.length vc LA ls.length lc
  obtain ⟨hk1, hk2⟩ := bxN_blk w t v VA vs.length vc LA ls.length lc
  have HB0 := Lib.hid hb0
  have HK := Lib.hid (fun W (hW : Below (bxN w t v VA vs.length vc LA ls.length lc).heap.size (bxN w t v VA vs.length vc LA ls.length lc) W) => And.intro (hk1.below hW) (hk2.below hW))
  have HVH := Lib.hid (fun W => rightHard_any t v W)
  have HRT := Lib.hid (fun W (hW : Below w.heap.size w W) => rightGroup_any VA vs.length vc vs LA ls.length lc ls W (hv.below hW) (hl.below hW))
  have HNO := Lib.hid hn
  have HVW := Lib.hid (fun W (hW : Below w.heap.size w W) => And.intro (hv.below hW) (hl.below hW))
  have h0 := hk1.cell 0 (.int .i64 t) rfl
  have h1 := hk1.cell 1 (.int .i64 v) rfl
  have g0 := hk2.cell 0 (.slice VA vs.length vc) rfl
  have g1 := hk2.cell 1 (.slice LA ls.length lc) rfl
  simp only [newOk, okNode] at hn
  unfold grpV at HRT ⊢
  unfold bxN at *
  simp only [Bool.and_eq_true, decide_eq_true_eq] at hn
  obtain ⟨hid, hh, hg, hp1, hp2⟩ := hn
  rw [hh] at HVH
  rw [hg] at HRT
  have d0 : decide (id < 1) = false := decide_eq_false (by omega)
  have d1 : decide (15 < id) = false := decide_eq_false (by omega)
  have d2 : decide (pat < 1) = false := decide_eq_false (by omega)
  have d3 : decide (1000 < pat) = false := decide_eq_false (by omega)
  have HLO := Lib.hid hlo
  have HVA := Lib.hid va
  have HLA := Lib.hid la
  clear hb0 hk1 hk2 hv hl hid hh hg hp1 hp2 hlo va la
  go_enter Try.func11, Try.ntmps11
  go_wp2_with fail
  refine (HVH.out _).mono ?_
  rintro e w1 ⟨rfl, hb1⟩
  have HB1 := Lib.hid (HB0.out.trans (hb1.mono HB0.out.size))
  have HX1 := Lib.hid hb1
  obtain ⟨ka, kb⟩ := HK.out w1 hb1
  have h0 := ka.cell 0 _ rfl
  have h1 := ka.cell 1 _ rfl
  have g0 := kb.cell 0 _ rfl
  have g1 := kb.cell 1 _ rfl
  clear hb1 ka kb
  go_wp2_with fail
  refine (HRT.out _ HB1.out).mono ?_
  rintro e w2 ⟨rfl, hb2⟩
  have HB2 := Lib.hid (HB1.out.trans (hb2.mono HB1.out.size))
  obtain ⟨ka, kb⟩ := HK.out w2 (HX1.out.trans (hb2.mono HX1.out.size))
  have h0 := ka.cell 0 _ rfl
  have h1 := ka.cell 1 _ rfl
  have g0 := kb.cell 0 _ rfl
  have g1 := kb.cell 1 _ rfl
  clear hb2 ka kb
  go_wp2_with fail
  go_ret2
  have hm := madeR_of (N := N) (vc := vc) (lc := lc) (Nat.le_trans HLO.out HB2.out.size) HNO.out (HVW.out _ HB2.out).1 (HVW.out _ HB2.out).2 HVA.out HLA.out
  exact ⟨_, rfl, hm.rm, HB2.out.trans (hm.bel.mono HB2.out.size), fun i hi => Nat.le_trans HB2.out.size (hm.new i hi)⟩
end Go.Proofs.Ytjajgjpkiofhmaa.El
