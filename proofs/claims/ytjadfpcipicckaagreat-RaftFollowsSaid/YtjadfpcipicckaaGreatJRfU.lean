/-
  Several texts in one: Layer 12: a group behind an entry of the log that is a change ('changed'), in general. Conditions: what comes in can be read. Layer 12 in memory: a node that does not lead, in any group: its block, its elector, its log, the row of its turns. Conditions: as each theorem states.
-/
import Derived.Test.YtjadfpcipicckaaGreatJRfA
import Derived.Test.YtjadfpcipicckaaGreatJQuT
import Derived.Test.YtjadfpcipicckaaGreatJFieldFr
import Derived.Test.YtjadfpcipicckaaGreatJRfH
namespace Go.Proofs.YtjadfpcipicckaaGreat.Rf
open Go.RowKit Go.Shelf Go.Proofs.YtjadfpcipicckaaGreat.Fld
open Go.Proofs.YtjadfpcipicckaaGreat.Qu (RdI)
set_option linter.unusedVariables false

/-- a number that a reader reads: what it is, what is left, whether the reader is bad then -/
def numR (zs : List Int) (bad : Bool) (most : Int) : Int × List Int × Bool :=
  if bad = true then (0, zs, true) else match cutNum zs with
  | some (v, r) => if (v : Int) ≤ most then (v, r, false) else (0, zs, true)
  | none => (0, zs, true)
theorem numR_le (zs : List Int) (bad : Bool) (most : Int) (h : 0 ≤ most) : 0 ≤ (numR zs bad most).1 ∧ (numR zs bad most).1 ≤ most := by
  unfold numR
  split
  · exact ⟨Int.le_refl _, h⟩
  · split
    · split
      · rename_i v r h1 h2; exact ⟨Int.natCast_nonneg _, h2⟩
      · exact ⟨Int.le_refl _, h⟩
    · exact ⟨Int.le_refl _, h⟩
theorem number_any (g : Nat) (zs : List Int) (w : World) (bad : Bool) (hr : Rdr w g zs bad) (most : Int) :
    Calls Tryz.prog 85 #[.pointer (some ⟨g, 0, none⟩), .int .u64 most] w (Got g w (.int .u64 (numR zs bad most).1) (numR zs bad most).2.1 (numR zs bad most).2.2) := by
  unfold numR
  cases bad with
  | true => exact num_bad g zs w true hr most (.inl rfl)
  | false =>
    rw [if_neg (by simp)]
    cases h : cutNum zs with
    | none => exact num_bad g zs w false hr most (.inr (.inl h))
    | some x =>
      obtain ⟨v, r⟩ := x
      by_cases hm : (v : Int) ≤ most
      · simp only [if_pos hm]
        exact num_ok g zs w hr v r h most hm
      · simp only [if_neg hm]
        exact num_bad g zs w false hr most (.inr (.inr ⟨v, r, h, by omega⟩))
/-- the group behind an entry with these bytes -/
def chdG (vs ls ds : List Int) : List Int × List Int :=
  let a := numR ds false 3
  let b := numR a.2.1 a.2.2 15
  if wholeB b.2.1 b.2.2 = true then (let c := Qu.chG vs ls a.1 b.1; if c.2.2 = 0 then (c.1, c.2.1) else (vs, ls)) else (vs, ls)
theorem chdG_not {vs ls ds : List Int} {k x : Int} {r1 r2 : List Int} {b1 b2 : Bool} (h1 : numR ds false 3 = (k, r1, b1)) (h2 : numR r1 b1 15 = (x, r2, b2)) (h : wholeB r2 b2 = false) : chdG vs ls ds = (vs, ls) := by
  unfold chdG
  simp only [h1, h2, h]
  simp
theorem chdG_bad {vs ls ds : List Int} {k x : Int} {r1 r2 : List Int} {b1 b2 : Bool} (h1 : numR ds false 3 = (k, r1, b1)) (h2 : numR r1 b1 15 = (x, r2, b2)) (h : (Qu.chG vs ls k x).2.2 ≠ 0) : chdG vs ls ds = (vs, ls) := by
  unfold chdG
  simp only [h1, h2, if_neg h]
  split <;> rfl
theorem chdG_ok {vs ls ds : List Int} {k x : Int} {r1 r2 : List Int} {b1 b2 : Bool} (h1 : numR ds false 3 = (k, r1, b1)) (h2 : numR r1 b1 15 = (x, r2, b2)) (hw : wholeB r2 b2 = true) (h : (Qu.chG vs ls k x).2.2 = 0) : chdG vs ls ds = ((Qu.chG vs ls k x).1, (Qu.chG vs ls k x).2.1) := by
  unfold chdG
  simp only [h1, h2, hw, if_pos h]
  simp
def ChdIs (w : World) (r : List Int × List Int) (e : Ending) (w' : World) : Prop := ∃ VA vc LA lc, e = .returned (.agg #[.slice VA r.1.length vc, .slice LA r.2.length lc]) ∧ Qu.RdT w' VA r.1.length r.1 ∧ Qu.RdT w' LA r.2.length r.2 ∧ Below w.heap.size w w'
set_option maxRecDepth 100000 in
set_option maxHeartbeats 1600000 in
theorem changed_any (VA : Option Addr) (vc : Nat) (vs : List Int) (LA : Option Addr) (lc : Nat) (ls : List Int) (DA : Option Addr) (dn dc : Nat) (ds : List Int) (w : World)
    (hv : Qu.RdT w VA vs.length vs) (hl : Qu.RdT w LA ls.length ls) (hd : Fld.Rd w DA dn ds) (hz : DA = none → dc = 0) (hdn : dn ≤ 140737488355328) :
    Calls Tryz.prog 51 #[.agg #[.slice VA vs.length vc, .slice LA ls.length lc], .slice DA dn dc] w (ChdIs w (chdG vs ls ds)) := by
  have hb1 := (Rg.alloc_below' w (.cells #[.slice VA vs.length vc, .slice LA ls.length lc] 26))
  have hb2 := hb1.alloc hb1.size (.cells #[.slice none 0 0, .slice none 0 0] 26)
  have k0 := (Rg.Blk.new w #[.slice VA vs.length vc, .slice LA ls.length lc] 26).past (.cells #[.slice none 0 0, .slice none 0 0] 26)
  have k1 := Rg.Blk.new (w.alloc (.cells #[.slice VA vs.length vc, .slice LA ls.length lc] 26)) #[.slice none 0 0, .slice none 0 0] 26
  rw [show (w.alloc (.cells #[.slice VA vs.length vc, .slice LA ls.length lc] 26)).heap.size = w.heap.size + 1 by simp] at k1
  have HB0 := Lib.hid hb2
  have HK0 := Lib.hid k0
  have HK1 := Lib.hid k1
  have HN := Lib.hid (Fld.new_any DA dn dc ds _ (hd.below hb2) hz hdn)
  have HV := Lib.hid (fun W (hW : Below w.heap.size w W) => hv.below hW)
  have HL := Lib.hid (fun W (hW : Below w.heap.size w W) => hl.below hW)
  have HS0 := Lib.hid (show ((w.alloc (.cells #[.slice VA vs.length vc, .slice LA ls.length lc] 26)).alloc (.cells #[.slice none 0 0, .slice none 0 0] 26)).heap.size = w.heap.size + 2 by simp)
  clear hb1 hb2 k0 k1 hv hl hd hz hdn
  go_enter Tryz.func51, Tryz.ntmps51
  go_wp2_with fail
  generalize (w.alloc (.cells #[.slice VA vs.length vc, .slice LA ls.length lc] 26)).alloc (.cells #[.slice none 0 0, .slice none 0 0] 26) = w2 at *
  refine HN.out.mono ?_
  rintro e w3 ⟨g, rfl, hg, hrd, hb3⟩
  have HG := Lib.hid (show w.heap.size + 2 ≤ g by have := HS0.out; omega)
  have HB3 := Lib.hid hb3
  have HN1 := Lib.hid (number_any g ds w3 false hrd 3)
  have HLE1 := Lib.hid (numR_le ds false 3 (by omega))
  obtain ⟨⟨k, r1, b1⟩, h1⟩ : ∃ a, numR ds false 3 = a := ⟨_, rfl⟩
  rw [h1] at HN1 HLE1
  have H1 := Lib.hid h1
  clear hg hrd hb3 h1
  go_wp2_with fail
  refine HN1.out.mono ?_
  rintro e w4 ⟨rfl, hc4, hr4⟩
  have HB4 := Lib.hid (Below.chg HB3.out hc4 (by have := HG.out; have := HS0.out; omega))
  have HN2 := Lib.hid (number_any g r1 w4 b1 hr4 15)
  have HLE2 := Lib.hid (numR_le r1 b1 15 (by omega))
  obtain ⟨⟨x, r2, b2⟩, h2⟩ : ∃ a, numR r1 b1 15 = a := ⟨_, rfl⟩
  rw [h2] at HN2 HLE2
  have H2 := Lib.hid h2
  clear hc4 hr4 h2
  go_wp2_with fail
  refine HN2.out.mono ?_
  rintro e w5 ⟨rfl, hc5, hr5⟩
  have HB5 := Lib.hid (Below.chg HB4.out hc5 (by have := HG.out; have := HS0.out; omega))
  have HW := Lib.hid (Fld.whole_any g r2 b2 w5 hr5)
  clear hc5 hr5
  go_wp2_with fail
  refine HW.out.mono ?_
  rintro e w' ⟨rfl, rfl⟩
  have HBW := Lib.hid (HB0.out.trans (HB5.out.mono HB0.out.size))
  have HK0' := Lib.hid (HK0.out.below HB5.out)
  have HK1' := Lib.hid (HK1.out.below HB5.out)
  have c0 := HK0'.out.cell 0 (.slice VA vs.length vc) rfl
  have c1 := HK0'.out.cell 1 (.slice LA ls.length lc) rfl
  have z0 := HK1'.out.cell 0 (.slice none 0 0) rfl
  have z1 := HK1'.out.cell 1 (.slice none 0 0) rfl
  have m1 := HK1'.out.free 0
  have m2 := HK1'.out.free 1
  cases hw : wholeB r2 b2 with
  | false =>
    have HE := Lib.hid (chdG_not (vs := vs) (ls := ls) H1.out H2.out hw)
    clear hw
    go_wp2
    have hbz := Lib.hid ((HBW.out.setCell (p := ⟨w.heap.size + 1, 0, none⟩) (by simp) (.slice VA vs.length vc)).setCell (p := ⟨w.heap.size + 1, 1, none⟩) (by simp) (.slice LA ls.length lc))
    have k3 := Rg.Blk.set (Rg.Blk.set HK1'.out 0 (.slice VA vs.length vc) (by show 0 < 2; omega)) 1 (.slice LA ls.length lc) (by show 1 < 2; omega)
    refine bodyPost_ret (results_cell_row rfl _ _ (w.heap.size + 1) _ _ (0, 0) _ rfl k3 Tryz.underlying26 rfl (by kernel_rfl)) rfl ?_
    rw [HE.out]
    exact ⟨VA, vc, LA, lc, rfl, HV.out _ hbz.out, HL.out _ hbz.out, hbz.out⟩
  | true =>
    have hch := Qu.change_t VA vs.length vc vs LA ls.length lc ls k x w5 (HV.out _ HBW.out).1 (HL.out _ HBW.out).1
    have HNO := Lib.hid (fun h => chdG_bad (vs := vs) (ls := ls) (k := k) (x := x) H1.out H2.out h)
    have HOK := Lib.hid (fun h => chdG_ok (vs := vs) (ls := ls) (k := k) (x := x) H1.out H2.out hw h)
    unfold Qu.grpV at hch
    have HCH := Lib.hid hch
    have i1 : IntKind.i64.wrap k = k := IntWalk.i64_in _ (by have := HLE1.out; omega)
    have i2 : IntKind.i64.wrap x = x := IntWalk.i64_in _ (by have := HLE2.out; omega)
    clear hch hw
    go_wp2_with fail
    refine HCH.out.mono ?_
    generalize Qu.chG vs ls k x = r at *
    obtain ⟨rv, rl, re⟩ := r
    rintro e w6 ⟨VB, vb, LB, lb, rfl, hvb, hlb, hb6⟩
    simp only at hvb hlb HNO HOK
    have HVB := Lib.hid (fun W (hW : Below w6.heap.size w6 W) => hvb.below hW)
    have HLB := Lib.hid (fun W (hW : Below w6.heap.size w6 W) => hlb.below hW)
    have HB6 := Lib.hid (HBW.out.trans (hb6.mono HBW.out.size))
    have HK6 := Lib.hid (HK0'.out.below hb6)
    have HK7 := Lib.hid (HK1'.out.below hb6)
    have hne : w6.heap.size ≠ w.heap.size + 1 := by have := HK7.out.lt; omega
    clear c0 c1 z0 z1 m1 m2 hvb hlb hb6
    by_cases he : re = 0
    · subst he
      have HE := Lib.hid (HOK.out rfl)
      have HAL := Lib.hid (HB6.out.alloc HB6.out.size (.cells #[.slice VB rv.length vb, .slice LB rl.length lb] 26))
      have HK8 := Lib.hid (HK7.out.past (.cells #[.slice VB rv.length vb, .slice LB rl.length lb] 26))
      have z0 := HK8.out.cell 0 (.slice none 0 0) rfl
      have z1 := HK8.out.cell 1 (.slice none 0 0) rfl
      have m1 := HK8.out.free 0
      have m2 := HK8.out.free 1
      go_wp2
      have hbz := Lib.hid ((HAL.out.setCell (p := ⟨w.heap.size + 1, 0, none⟩) (by simp) (.slice VB rv.length vb)).setCell (p := ⟨w.heap.size + 1, 1, none⟩) (by simp) (.slice LB rl.length lb))
      have k3 := Rg.Blk.set (Rg.Blk.set HK8.out 0 (.slice VB rv.length vb) (by show 0 < 2; omega)) 1 (.slice LB rl.length lb) (by show 1 < 2; omega)
      refine bodyPost_ret (results_cell_row rfl _ _ (w.heap.size + 1) _ _ (0, 0) _ rfl k3 Tryz.underlying26 rfl (by kernel_rfl)) rfl ?_
      rw [HE.out]
      exact ⟨VB, vb, LB, lb, rfl, (HVB.out _ (Rg.alloc_below' w6 _)).two HK8.out _ _ _ _ _ _, (HLB.out _ (Rg.alloc_below' w6 _)).two HK8.out _ _ _ _ _ _, hbz.out⟩
    · have HE := Lib.hid (HNO.out he)
      have HAL := Lib.hid (HB6.out.alloc HB6.out.size (.cells #[.slice VB rv.length vb, .slice LB rl.length lb] 26))
      have HK8 := Lib.hid (HK7.out.past (.cells #[.slice VB rv.length vb, .slice LB rl.length lb] 26))
      have HK9 := Lib.hid (HK6.out.past (.cells #[.slice VB rv.length vb, .slice LB rl.length lb] 26))
      have c0 := HK9.out.cell 0 (.slice VA vs.length vc) rfl
      have c1 := HK9.out.cell 1 (.slice LA ls.length lc) rfl
      have z0 := HK8.out.cell 0 (.slice none 0 0) rfl
      have z1 := HK8.out.cell 1 (.slice none 0 0) rfl
      have m1 := HK8.out.free 0
      have m2 := HK8.out.free 1
      have ne : (re == 0) = false := by simpa using he
      go_wp2
      have hbz := Lib.hid ((HAL.out.setCell (p := ⟨w.heap.size + 1, 0, none⟩) (by simp) (.slice VA vs.length vc)).setCell (p := ⟨w.heap.size + 1, 1, none⟩) (by simp) (.slice LA ls.length lc))
      have k3 := Rg.Blk.set (Rg.Blk.set HK8.out 0 (.slice VA vs.length vc) (by show 0 < 2; omega)) 1 (.slice LA ls.length lc) (by show 1 < 2; omega)
      refine bodyPost_ret (results_cell_row rfl _ _ (w.heap.size + 1) _ _ (0, 0) _ rfl k3 Tryz.underlying26 rfl (by kernel_rfl)) rfl ?_
      rw [HE.out]
      exact ⟨VA, vc, LA, lc, rfl, HV.out _ hbz.out, HL.out _ hbz.out, hbz.out⟩
end Go.Proofs.YtjadfpcipicckaaGreat.Rf

namespace Go.Proofs.YtjadfpcipicckaaGreat.Rf
open Go.RowKit Go.Shelf Go.Proofs.YtjadfpcipicckaaGreat.Fld
open Go.Proofs.YtjadfpcipicckaaGreat.Qu (RdI)
set_option linter.unusedVariables false

/-- where a node lies that does not lead -/
structure FB where
  nb : Nat
  p : El.Pl
  g : Nat
  v : Value
  xs : List Rg.EA
  SV : Option Addr
  sn : Nat
  svc : Nat
  SL : Option Addr
  ln : Nat
  slc : Nat
  SD : Option Addr
  sdn : Nat
  sdc : Nat
  T : Value
  ts : List TA
/-- its state -/
structure FS where
  e : El.St
  g : Rg.St
  win : Int
  sI : Int
  sT : Int
  hT : Int
  hV : Int
def foR (b : FB) (s : FS) : Array Value := #[.pointer (some ⟨b.p.g, 0, none⟩), .int .i64 s.e.id, .int .i64 s.win, .pointer (some ⟨b.g, 0, none⟩), .int .i64 s.sI, .int .i64 s.sT, .slice b.SV b.sn b.svc, .slice b.SL b.ln b.slc, .slice b.SD b.sdn b.sdc, b.T, .int .i64 s.hT, .int .i64 s.hV, .bool false, .int .i64 0, .int .i64 0, .bool false, .int .i64 0, .int .i64 0, .slice none 0 0, .slice none 0 0, .slice none 0 0, .int .i64 0, .slice none 0 0, .slice none 0 0, .map none, .slice none 0 0, .int .i64 0]
def rowT (ts : List TA) : List Value := ts.flatMap fun t => [.int .i64 t.idx, .slice t.VA t.vn t.vc, .slice t.LA t.ln t.lc]
theorem rowT_append (a b : List TA) : rowT (a ++ b) = rowT a ++ rowT b := by simp [rowT]
theorem rowT_at : ∀ (ts : List TA) (k : Nat), k < ts.length → (rowT ts)[k * 3]? = some (.int .i64 (ts.getD k ta0).idx) ∧ (rowT ts)[k * 3 + 1]? = some (.slice (ts.getD k ta0).VA (ts.getD k ta0).vn (ts.getD k ta0).vc) ∧ (rowT ts)[k * 3 + 2]? = some (.slice (ts.getD k ta0).LA (ts.getD k ta0).ln (ts.getD k ta0).lc)
  | [], k, h => by simp at h
  | t :: ts, 0, h => by refine ⟨rfl, rfl, rfl⟩
  | t :: ts, k + 1, h => by
    obtain ⟨q0, q1, q2⟩ := rowT_at ts k (by simpa using h)
    have e : rowT (t :: ts) = [.int .i64 t.idx, .slice t.VA t.vn t.vc, .slice t.LA t.ln t.lc] ++ rowT ts := by simp [rowT]
    rw [e]
    have i0 : (k + 1) * 3 = k * 3 + 3 := by omega
    refine ⟨?_, ?_, ?_⟩
    · rw [i0, List.getElem?_append_right (by simp)]; simpa using q0
    · rw [i0, List.getElem?_append_right (by simp)]; simpa using q1
    · rw [i0, List.getElem?_append_right (by simp)]; simpa using q2
theorem eturn : Ety 54 103 3 := by
  refine ⟨Tryz.underlying54, ?_, by omega⟩
  have h : (Tryz.prog.info? 103).map (fun i => (i.zero, i.size, i.bytes)) = some (some (.agg #[.int .i64 0, .slice none 0 0, .slice none 0 0]), 3, 56) := by kernel_rfl
  cases hq : Tryz.prog.info? 103 with
  | none => simp [hq] at h
  | some i => simp [hq] at h; exact ⟨i, _, rfl, h.1, h.2.1, rfl, by omega⟩
/-- a row of turns is a slice of them -/
theorem row_tn {w : World} {lo : Nat} {v : Value} {ts : List TA} (h : w.ownsRow lo 103 3 v ts.length (rowT ts)) : ∃ A cap, v = .slice A ts.length cap ∧ RdTn w A ts.length ts := by
  obtain ⟨A, cap, hv, ha, hc, hm, hn⟩ := Rg.row_slice h
  refine ⟨A, cap, hv, rfl, Nat.le_trans hc hm, fun hn0 => ?_⟩
  rcases h.2 with ⟨h1, h0⟩ | ⟨g, cap', cur, e, hg, hh, hnc, hcm, hcs, hcu⟩
  · omega
  · obtain rfl : A = some ⟨g, 0, none⟩ := by rw [hv] at e; injection e
    have hk : ∀ j v, (rowT ts)[j]? = some v → w.cell? ⟨g, 0 + j, none⟩ = some v := by
      intro j v hj
      have hjl : j < ts.length * 3 := by
        have hl : (rowT ts).length = ts.length * 3 := by rw [h.1]
        rcases Nat.lt_or_ge j (ts.length * 3) with h' | h'
        · exact h'
        · rw [List.getElem?_eq_none (by omega)] at hj; cases hj
      rw [Nat.zero_add, cell_of_row w g j cur _ (0, 0) hh, ← hj, ← hcu, List.getElem?_take, if_pos hjl, Array.getElem?_toList]
    refine ⟨g, 0, rfl, fun k hkn => ?_⟩
    obtain ⟨q0, q1, q2⟩ := rowT_at ts k hkn
    exact ⟨hk _ _ q0, hk _ _ q1, hk _ _ q2⟩
/-- blocks none of which holds numbers alone -/
def NotI (w : World) (S : List Nat) : Prop := ∀ i ∈ S, ∀ cs, ¬ Rg.Blk w i cs 3
theorem rdT_fr {w w' : World} {S : List Nat} {A : Option Addr} {n : Nat} {l : List Int} (h : Qu.RdT w A n l) (hf : Dk.Fr S w w') (hs : NotI w S) : Qu.RdT w' A n l :=
  ⟨El.rdI_fr h.1 hf (fun a ha hm => by obtain ⟨cs, hk⟩ := h.2 a ha; exact hs _ hm cs hk), fun a ha => by
    obtain ⟨cs, hk⟩ := h.2 a ha
    exact ⟨cs, (hf.block _ (Qu.Blk.lt hk) (fun hm => hs _ hm cs hk)).trans hk⟩⟩
/-- a group's slices -/
def GrO (w : World) (VA : Option Addr) (vn : Nat) (LA : Option Addr) (ln : Nat) : Prop := ∃ vs ls, Qu.RdT w VA vn vs ∧ Qu.RdT w LA ln ls
theorem GrO.fr {w w' : World} {S : List Nat} {VA LA : Option Addr} {vn ln : Nat} (h : GrO w VA vn LA ln) (hf : Dk.Fr S w w') (hs : NotI w S) : GrO w' VA vn LA ln := by
  obtain ⟨vs, ls, h1, h2⟩ := h
  exact ⟨vs, ls, rdT_fr h1 hf hs, rdT_fr h2 hf hs⟩
theorem GrO.below {w w' : World} {VA LA : Option Addr} {vn ln : Nat} (h : GrO w VA vn LA ln) (hb : Below w.heap.size w w') : GrO w' VA vn LA ln :=
  h.fr (S := []) (Dk.Fr.below hb) (fun i hi => by cases hi)
/-- the blocks that its making may change -/
def FB.foot (b : FB) : List Nat := b.nb :: b.p.g :: b.p.b :: b.g :: (b.v.ownBlock.toList ++ b.T.ownBlock.toList)
theorem fmem {b : FB} {i : Nat} : i ∈ b.foot ↔ i = b.nb ∨ i = b.p.g ∨ i = b.p.b ∨ i = b.g ∨ b.v.ownBlock = some i ∨ b.T.ownBlock = some i := by
  simp [FB.foot, eq_comm]
structure Fo (lo : Nat) (w : World) (b : FB) (s : FS) : Prop where
  blk : Qu.Blk w b.nb (foR b s) 60
  el : El.Im w b.p s.e
  lg : Rg.Im lo w b.g s.g b.v b.xs
  row : w.ownsRow lo 103 3 b.T b.ts.length (rowT b.ts)
  grp0 : GrO w b.SV b.sn b.SL b.ln
  grp : ∀ t ∈ b.ts, GrO w t.VA t.vn t.LA t.ln
  all : ∀ i ∈ b.p.all, i < w.heap.size ∧ i ≠ b.nb ∧ i ≠ b.g ∧ b.v.ownBlock ≠ some i ∧ b.T.ownBlock ≠ some i
  lo : ∀ i ∈ b.foot, lo ≤ i
  last : LastOk b.ts s.g.last
  few : b.xs.length ≤ 1000000
  fts : b.ts.length ≤ 1000000
  role : s.e.role ≠ 3
theorem Fo.foot_lt {lo : Nat} {w : World} {b : FB} {s : FS} (h : Fo lo w b s) : ∀ i ∈ b.foot, i < w.heap.size := by
  intro i hi
  rcases fmem.1 hi with rfl | rfl | rfl | rfl | h1 | h1
  · exact Qu.Blk.lt h.blk
  · exact Qu.Blk.lt h.el.blk
  · exact h.el.map.lt
  · exact Rg.Blk.lt h.lg.blk
  · exact (Rg.row_lo h.lg.row i h1).2
  · exact (Rg.row_lo h.row i h1).2
theorem Fo.nb_ne {lo : Nat} {w : World} {b : FB} {s : FS} (h : Fo lo w b s) : b.nb ≠ b.g ∧ b.v.ownBlock ≠ some b.nb ∧ b.T.ownBlock ≠ some b.nb ∧ b.T.ownBlock ≠ some b.g ∧ (∀ i, b.v.ownBlock = some i → b.T.ownBlock ≠ some i) :=
  ⟨Rg.Blk.ne h.blk h.lg.blk (by decide), Rg.row_ne h.lg.row h.blk (by decide), Rg.row_ne h.row h.blk (by decide), Rg.row_ne h.row h.lg.blk (by decide), Rg.rows_ne h.lg.row h.row (by decide)⟩
/-- nothing but what is not the node's has changed -/
theorem Fo.below {lo : Nat} {w w' : World} {b : FB} {s : FS} (h : Fo lo w b s) (hb : Below w.heap.size w w') : Fo lo w' b s := by
  exact ⟨h.blk.below hb, h.el.below hb, h.lg.below hb, Rg.row_of h.row (fun i hi => hb.block i (Rg.row_lo h.row i hi).2), h.grp0.below hb, fun t ht => (h.grp t ht).below hb, fun i hi => ⟨Nat.lt_of_lt_of_le (h.all i hi).1 hb.size, (h.all i hi).2⟩, h.lo, h.last, h.few, h.fts, h.role⟩
theorem not8_nt {lo : Nat} {w : World} {b : FB} {s : FS} (h : Fo lo w b s) : Rg.Not8 w (b.nb :: b.T.ownBlock.toList) := by
  intro i hi cs hb
  simp only [List.mem_cons, Option.mem_toList] at hi
  rcases hi with rfl | hi
  · exact Rg.Blk.ne h.blk hb (by decide) rfl
  · exact Rg.row_ne h.row hb (by decide) hi
theorem noti_nt {lo : Nat} {w : World} {b : FB} {s : FS} (h : Fo lo w b s) : NotI w (b.nb :: b.T.ownBlock.toList) := by
  intro i hi cs hb
  simp only [List.mem_cons, Option.mem_toList] at hi
  rcases hi with rfl | hi
  · exact Rg.Blk.ne h.blk hb (by decide) rfl
  · exact Rg.row_ne h.row hb (by decide) hi
/-- a turn more -/
theorem Fo.turn {lo : Nat} {w w6 : World} {b : FB} {s : FS} {T' : Value} {ts' : List TA} (h : Fo lo w b s) (hg : w.grownBy w6 b.T.ownBlock) (hr6 : w6.ownsRow lo 103 3 T' ts'.length (rowT ts')) (hat : T'.ownBlock = b.T.ownBlock ∨ T'.ownBlock = some w.heap.size ∨ T'.ownBlock = none)
    (hts : ∀ t ∈ ts', GrO w t.VA t.vn t.LA t.ln) (hla : LastOk ts' s.g.last) (hfew : ts'.length ≤ 1000000) : Fo lo (w6.setCell ⟨b.nb, 9, none⟩ T') { b with T := T', ts := ts' } s ∧ Dk.Fr (b.nb :: b.T.ownBlock.toList) w (w6.setCell ⟨b.nb, 9, none⟩ T') := by
  obtain ⟨n1, n2, n3, n4, n5⟩ := h.nb_ne
  have hf6 : Dk.Fr b.T.ownBlock.toList w w6 := (Dk.Fr.refl _ _).grown hg (fun i hi => .inl (by simp [hi]))
  have hlo0 : lo ≤ w.heap.size := Nat.le_trans (h.lo b.nb (fmem.2 (by simp))) (Nat.le_of_lt h.blk.lt)
  have kb : Qu.Blk w6 b.nb (foR b s) 60 := (hf6.block _ h.blk.lt (by simpa using n3)).trans h.blk
  have hf : Dk.Fr (b.nb :: b.T.ownBlock.toList) w (w6.setCell ⟨b.nb, 9, none⟩ T') := (hf6.mono (fun i hi => by simp [hi])).setCell _ (.inl (by simp)) _
  have nin : ∀ i, i ≠ b.nb → b.T.ownBlock ≠ some i → i ∉ b.nb :: b.T.ownBlock.toList := fun i h1 h2 hm => by
    simp only [List.mem_cons, Option.mem_toList] at hm
    exact hm.elim h1 h2
  have hfo : ∀ i ∈ ({ b with T := T', ts := ts' } : FB).foot, i ∈ b.foot ∨ w.heap.size ≤ i := by
    intro i hi
    rcases fmem.1 hi with h1 | h1 | h1 | h1 | h1 | h1
    · exact .inl (fmem.2 (by simp [show i = b.nb from h1]))
    · exact .inl (fmem.2 (by simp [show i = b.p.g from h1]))
    · exact .inl (fmem.2 (by simp [show i = b.p.b from h1]))
    · exact .inl (fmem.2 (by simp [show i = b.g from h1]))
    · exact .inl (fmem.2 (by simp [show b.v.ownBlock = some i from h1]))
    · have h1' : T'.ownBlock = some i := h1
      rcases hat with h2 | h2 | h2
      · exact .inl (fmem.2 (by simp [show b.T.ownBlock = some i by rw [← h2]; exact h1']))
      · have : some w.heap.size = some i := h2.symm.trans h1'
        exact .inr (by cases this; omega)
      · rw [h2] at h1'; cases h1'
  have hrn : T'.ownBlock ≠ some b.nb := Rg.row_ne hr6 kb (by decide)
  refine ⟨⟨?_, h.el.fr hf (fun i hi => nin i (h.all i hi).2.1 (h.all i hi).2.2.2.2), h.lg.fr hf (fun i hi => ?_) (not8_nt h), ?_, h.grp0.fr hf (noti_nt h), fun t ht => (hts t ht).fr hf (noti_nt h), fun i hi => ?_, ?_, hla, h.few, hfew, h.role⟩, hf⟩
  · have : (foR b s).setIfInBounds 9 T' = foR { b with T := T', ts := ts' } s := rfl
    rw [← this]
    exact Qu.Blk.set kb 9 T' (by show 9 < 27; omega)
  · simp only [List.mem_cons, Option.mem_toList] at hi
    rcases hi with rfl | hi
    · exact nin _ (Ne.symm n1) n4
    · exact nin _ (fun e => n2 (by rw [← e]; exact hi)) (n5 _ hi)
  · exact Rg.row_of hr6 (fun i hi => Below.heap_setCell _ _ _ _ (fun e => hrn (by rw [hi]; exact congrArg some e)))
  · obtain ⟨a1, a2, a3, a4, a5⟩ := h.all i hi
    refine ⟨Nat.lt_of_lt_of_le a1 hf.size, a2, a3, a4, ?_⟩
    show T'.ownBlock ≠ some i
    rcases hat with h2 | h2 | h2
    · rw [h2]; exact a5
    · rw [h2]; intro e; cases e; omega
    · rw [h2]; simp
  · intro i hi
    rcases hfo i hi with h1 | h1
    · exact h.lo i h1
    · omega
end Go.Proofs.YtjadfpcipicckaaGreat.Rf
