/-
  Several texts in one: Layer 12, a node that does not lead: its group, its log's end and entries, Join. Conditions: the node lies in memory. Layer 12, a node that does not lead: regroup over a log with changes. Conditions: the node lies in memory and has no turns yet.
-/
import Derived.Test.YtjadfpcipicckaaGreatJRfU
namespace Go.Proofs.YtjadfpcipicckaaGreat.Rf
open Go.RowKit Go.Shelf Go.Proofs.YtjadfpcipicckaaGreat.Fld
open Go.Proofs.YtjadfpcipicckaaGreat.Qu (RdI)
set_option linter.unusedVariables false

theorem Fo.c0 {lo : Nat} {w : World} {b : FB} {s : FS} (h : Fo lo w b s) : w.cell? ⟨b.nb, 0, none⟩ = some (.pointer (some ⟨b.p.g, 0, none⟩)) := Qu.Blk.cell h.blk 0 _ rfl
theorem Fo.c3 {lo : Nat} {w : World} {b : FB} {s : FS} (h : Fo lo w b s) : w.cell? ⟨b.nb, 3, none⟩ = some (.pointer (some ⟨b.g, 0, none⟩)) := Qu.Blk.cell h.blk 3 _ rfl
theorem Fo.c6 {lo : Nat} {w : World} {b : FB} {s : FS} (h : Fo lo w b s) : w.cell? ⟨b.nb, 6, none⟩ = some (.slice b.SV b.sn b.svc) := Qu.Blk.cell h.blk 6 _ rfl
theorem Fo.c7 {lo : Nat} {w : World} {b : FB} {s : FS} (h : Fo lo w b s) : w.cell? ⟨b.nb, 7, none⟩ = some (.slice b.SL b.ln b.slc) := Qu.Blk.cell h.blk 7 _ rfl
theorem Fo.c9 {lo : Nat} {w : World} {b : FB} {s : FS} (h : Fo lo w b s) : w.cell? ⟨b.nb, 9, none⟩ = some b.T := Qu.Blk.cell h.blk 9 _ rfl
theorem Fo.free {lo : Nat} {w : World} {b : FB} {s : FS} (h : Fo lo w b s) (i : Nat) : w.frozen? ⟨b.nb, i, none⟩ = false := Qu.Blk.free h.blk i
theorem Fo.last' {lo : Nat} {w : World} {b : FB} {s : FS} (h : Fo lo w b s) (W : World) (hW : Below w.heap.size w W) : Calls Tryz.prog 22 #[.pointer (some ⟨b.g, 0, none⟩)] W fun e w' => e = .returned (.int .i64 s.g.last) ∧ ∃ m, w' = W.drewN m := by
  obtain ⟨A, cap, _, hl, _⟩ := (h.lg.below hW).slice
  exact hl.last_dr
theorem Fo.get {lo : Nat} {w : World} {b : FB} {s : FS} (h : Fo lo w b s) (f m : Int) (W : World) (hW : Below w.heap.size w W) : Calls Tryz.prog 50 #[.pointer (some ⟨b.g, 0, none⟩), .int .i64 f, .int .i64 m] W (Rg.GetIs W (Rg.getE s.g f m)) := by
  have hh := h.below hW
  obtain ⟨A, cap, _, hl, hc, _⟩ := hh.lg.slice
  refine hl.get_any hc hh.few (fun x hx => ?_) f m
  have := Rg.okL_mem hh.lg.ok.ok (e := x.e) (by rw [← hh.lg.es]; exact List.mem_map_of_mem hx)
  rw [Rg.okE_iff] at this
  omega
/-- the group that is its own -/
def GrpIs (w : World) (e : Ending) (w' : World) : Prop := ∃ VA vn vc LA ln lc, e = .returned (.agg #[.slice VA vn vc, .slice LA ln lc]) ∧ GrO w' VA vn LA ln ∧ Below w.heap.size w w'
theorem Fo.group {lo : Nat} {w : World} {b : FB} {s : FS} (h : Fo lo w b s) (W : World) (hW : Below w.heap.size w W) : Calls Tryz.prog 25 #[.pointer (some ⟨b.nb, 0, none⟩)] W (GrpIs W) := by
  have hh := h.below hW
  obtain ⟨A, cap, hT, hr⟩ := row_tn hh.row
  have c9 := hh.c9
  rw [hT] at c9
  refine (group_any b.nb b.g s.g.last A b.ts.length cap b.ts b.SV b.sn b.svc b.SL b.ln b.slc W hr hh.c3 hh.c6 hh.c7 c9 (fun W' hW' => hh.last' W' hW') hh.last).mono ?_
  rintro e w' ⟨rfl, hb⟩
  unfold lastG
  cases ht : b.ts.getLast? with
  | none => exact ⟨_, _, _, _, _, _, rfl, hh.grp0.below hb, hb⟩
  | some t => exact ⟨_, _, _, _, _, _, rfl, (hh.grp t (List.mem_of_getLast? ht)).below hb, hb⟩
theorem not8_fe {lo : Nat} {w : World} {b : FB} {s : FS} (h : Fo lo w b s) : Rg.Not8 w [b.p.g, b.p.b] := by
  intro i hi cs hb
  simp only [List.mem_cons, List.not_mem_nil, or_false] at hi
  rcases hi with rfl | rfl
  · exact Rg.Blk.ne h.el.blk hb (by decide) rfl
  · obtain ⟨es, clock, hm⟩ := map_obj h.el.map
    exact blk_not_map hb hm rfl
theorem noti_fe {lo : Nat} {w : World} {b : FB} {s : FS} (h : Fo lo w b s) : NotI w [b.p.g, b.p.b] := by
  intro i hi cs hb
  simp only [List.mem_cons, List.not_mem_nil, or_false] at hi
  rcases hi with rfl | rfl
  · exact Rg.Blk.ne h.el.blk hb (by decide) rfl
  · obtain ⟨es, clock, hm⟩ := map_obj h.el.map
    exact blk_not_map hb hm rfl
/-- the elector has changed -/
theorem Fo.elect {lo : Nat} {w w' : World} {b : FB} {s : FS} {p' : El.Pl} {e' : El.St} (h : Fo lo w b s) (k : El.Did w w' p' e') (hg : p'.g = b.p.g) (hb : p'.b = b.p.b)
    (ha : ∀ i ∈ p'.all, i ∈ b.p.all ∨ w.heap.size ≤ i) (hl : ∀ i ∈ p'.all, i < w'.heap.size) (hid : e'.id = s.e.id) (hr : e'.role ≠ 3) : Fo lo w' { b with p := p' } { s with e := e' } ∧ Dk.Fr [b.p.g, b.p.b] w w' := by
  have hf : Dk.Fr [b.p.g, b.p.b] w w' := by have := k.fr; unfold El.Pl.ft at this; rw [hg, hb] at this; exact this
  have ag := h.all b.p.g (by simp [El.Pl.all])
  have ab := h.all b.p.b (by simp [El.Pl.all])
  have nin : ∀ i, i ≠ b.p.g → i ≠ b.p.b → i ∉ [b.p.g, b.p.b] := fun i h1 h2 hm => by
    simp only [List.mem_cons, List.not_mem_nil, or_false] at hm
    exact hm.elim h1 h2
  have hfo : ∀ i, i ∈ ({ b with p := p' } : FB).foot ↔ i ∈ b.foot := fun i => by rw [fmem, fmem]; simp only [hg, hb]
  have hlt := h.foot_lt
  refine ⟨⟨?_, k.im, ?_, ?_, h.grp0.fr hf (noti_fe h), fun t ht => (h.grp t ht).fr hf (noti_fe h), fun i hi => ⟨hl i hi, ?_⟩, fun i hi => h.lo i ((hfo i).1 hi), h.last, h.few, h.fts, hr⟩, hf⟩
  · have : foR { b with p := p' } { s with e := e' } = foR b s := by simp only [foR, hg, hid]
    rw [this]
    exact (hf.block _ h.blk.lt (nin _ (Ne.symm ag.2.1) (Ne.symm ab.2.1))).trans h.blk
  · refine h.lg.fr hf (fun i hi => ?_) (not8_fe h)
    simp only [List.mem_cons, Option.mem_toList] at hi
    rcases hi with rfl | hi
    · exact nin _ (Ne.symm ag.2.2.1) (Ne.symm ab.2.2.1)
    · exact nin _ (fun e => ag.2.2.2.1 (by rw [← e]; exact hi)) (fun e => ab.2.2.2.1 (by rw [← e]; exact hi))
  · exact Rg.row_of h.row (fun i hi => hf.block i (hlt i (fmem.2 (by simp [hi]))) (nin _ (fun e => ag.2.2.2.2 (by rw [← e]; exact hi)) (fun e => ab.2.2.2.2 (by rw [← e]; exact hi))))
  · rcases ha i hi with h1 | h1
    · exact (h.all i h1).2
    · refine ⟨fun e => ?_, fun e => ?_, fun e => ?_, fun e => ?_⟩
      · have := hlt b.nb (fmem.2 (by simp)); have e' : i = b.nb := e; omega
      · have := hlt b.g (fmem.2 (by simp)); have e' : i = b.g := e; omega
      · have := hlt i (fmem.2 (by simp [show b.v.ownBlock = some i from e])); omega
      · have := hlt i (fmem.2 (by simp [show b.T.ownBlock = some i from e])); omega
def JoinedIs (lo : Nat) (w : World) (b : FB) (s : FS) (e : Ending) (w' : World) : Prop := (∃ c, e = .returned (.int .i64 c)) ∧ ∃ p' e', p'.g = b.p.g ∧ Fo lo w' { b with p := p' } { s with e := e' } ∧ Dk.Fr [b.p.g, b.p.b] w w' ∧ e'.term = s.e.term ∧ e'.vote = s.e.vote ∧ e'.role = s.e.role
theorem Fo.join {lo : Nat} {w : World} {b : FB} {s : FS} (h : Fo lo w b s) (VA : Option Addr) (vn vc : Nat) (LA : Option Addr) (ln lc : Nat) (hg : GrO w VA vn LA ln) : Calls Tryz.prog 52 #[.pointer (some ⟨b.p.g, 0, none⟩), .agg #[.slice VA vn vc, .slice LA ln lc]] w (JoinedIs lo w b s) := by
  obtain ⟨vs, ls, ⟨hv, _⟩, ⟨hl, _⟩⟩ := hg
  obtain rfl := hv.1
  obtain rfl := hl.1
  cases hk : Qu.grpOk vs ls with
  | true =>
    refine (El.joined_ok b.p s.e VA vc vs LA lc ls w h.el hv hl hk).mono ?_
    rintro e w' ⟨p', rfl, h1, h2, h3, h4, h5⟩
    obtain ⟨hF, hf⟩ := h.elect h3 h1 h2 h4 h5 rfl h.role
    exact ⟨⟨0, rfl⟩, p', _, h1, hF, hf, rfl, rfl, rfl⟩
  | false =>
    refine (El.joined_bad b.p s.e VA vc vs LA lc ls w h.el hv hl hk).mono ?_
    rintro e w' ⟨rfl, hb⟩
    exact ⟨⟨1, rfl⟩, b.p, s.e, rfl, h.below hb, Dk.Fr.below hb, rfl, rfl, rfl⟩
/-- what a change makes of a group -/
theorem changed_gr {VA LA DA : Option Addr} {vn vc ln lc dn dc : Nat} {ds : List Int} {w : World} (hg : GrO w VA vn LA ln) (hd : Fld.Rd w DA dn ds) (hz : DA = none → dc = 0) (hdn : dn ≤ 140737488355328) : Calls Tryz.prog 51 #[.agg #[.slice VA vn vc, .slice LA ln lc], .slice DA dn dc] w (GrpIs w) := by
  obtain ⟨vs, ls, hv, hl⟩ := hg
  obtain rfl := hv.1.1
  obtain rfl := hl.1.1
  refine (changed_any VA vc vs LA lc ls DA dn dc ds w hv hl hd hz hdn).mono ?_
  rintro e w' ⟨VB, vb, LB, lb, rfl, h1, h2, hb⟩
  exact ⟨_, _, _, _, _, _, rfl, ⟨_, _, h1, h2⟩, hb⟩
/-- a cell that holds what it held -/
theorem Fo.none9 {lo : Nat} {w : World} {b : FB} {s : FS} (h : Fo lo w b s) (hT : b.T = .slice none 0 0) (hts : b.ts = []) : Fo lo (w.setCell ⟨b.nb, 9, none⟩ (.slice none 0 0)) b s ∧ Dk.Fr [b.nb] w (w.setCell ⟨b.nb, 9, none⟩ (.slice none 0 0)) := by
  have := h.turn (T' := .slice none 0 0) (ts' := []) (World.grownBy.refl w _) ⟨rfl, .inl ⟨rfl, rfl⟩⟩ (.inr (.inr rfl)) (fun t ht => by cases ht) (fun t ht => by cases ht) (by simp)
  rw [hT] at this
  have e : ({ b with T := .slice none 0 0, ts := [] } : FB) = b := by rw [← hT, ← hts]
  rw [e] at this
  exact this
end Go.Proofs.YtjadfpcipicckaaGreat.Rf

namespace Go.Proofs.YtjadfpcipicckaaGreat.Rf
open Go.RowKit Go.Shelf Go.Proofs.YtjadfpcipicckaaGreat.Fld
open Go.Proofs.YtjadfpcipicckaaGreat.Qu (RdI)
set_option linter.unusedVariables false

theorem es_last {s : Rg.St} (h : s.Ok) {x : Rg.En} (hx : x ∈ s.es) : x.idx ≤ s.last ∧ x.data.length ≤ 4096 := by
  obtain ⟨k, hk, rfl⟩ := List.getElem_of_mem hx
  have h1 := (Rg.fol_at h.fo k hk).1
  rw [List.getD_eq_getElem?_getD, List.getElem?_eq_getElem hk] at h1
  have h2 := (Rg.okE_iff _).1 (Rg.okL_mem h.ok (List.getElem_mem hk))
  refine ⟨?_, h2.2.2.2.2.2.2⟩
  unfold Rg.St.last
  simp only [Option.getD_some] at h1
  omega
theorem getE_len (s : Rg.St) (f m : Int) : (Rg.getE s f m).length ≤ s.es.length := by
  unfold Rg.getE
  split
  · simp
  · simp; omega
theorem ys_at {lo lo3 n cap : Nat} {w3 wr : World} {b : FB} {s : FS} {A : Option Addr} {ys : List Rg.EA} (h : Fo lo w3 b s) (hf : Dk.Fr [b.nb] w3 wr) (hrow : w3.ownsRow lo3 67 4 (.slice A n cap) n (Rg.rowE ys)) (hd : Rg.DatO lo3 w3 ys) : Rg.RdE wr A n ys :=
  Rg.row_rdE (Rg.row_of hrow (fun i hi => hf.block i (Rg.row_lo hrow i hi).2 (by
    intro hm
    obtain rfl : i = b.nb := by simpa using hm
    exact Rg.row_ne hrow h.blk (by decide) hi))) (hd.not8 hf (by
    intro i hi cs hb
    obtain rfl : i = b.nb := by simpa using hi
    exact Rg.Blk.ne h.blk hb (by decide) rfl)).dat
theorem turn_blk {lo : Nat} {w w6 : World} {b : FB} {s : FS} (h : Fo lo w b s) (hg : w.grownBy w6 b.T.ownBlock) : Rg.Blk w6 b.nb (foR b s) 60 :=
  (hg.block _ h.blk.lt (fun e => h.nb_ne.2.2.1 e.symm)).trans h.blk
theorem fo_row {lo n : Nat} {w : World} {b : FB} {s : FS} {T : Value} {ts : List TA} (h : Fo lo w { b with T := T, ts := ts } s) (hn : ts.length = n) : w.ownsRow lo 103 3 T n (rowT ts) := by
  have := h.row
  rw [← hn]
  exact this
theorem fo_c9 {lo : Nat} {w : World} {b : FB} {s : FS} {T : Value} {ts : List TA} (h : Fo lo w { b with T := T, ts := ts } s) : w.cell? ⟨b.nb, 9, none⟩ = some T ∧ w.frozen? ⟨b.nb, 9, none⟩ = false := ⟨h.c9, h.free 9⟩
theorem turn_c9 {lo : Nat} {w w6 : World} {b : FB} {s : FS} {T : Value} {ts : List TA} (h : Fo lo w { b with T := T, ts := ts } s) (hg : w.grownBy w6 T.ownBlock) : w6.cell? ⟨b.nb, 9, none⟩ = some T ∧ w6.frozen? ⟨b.nb, 9, none⟩ = false :=
  have kb := turn_blk h hg
  ⟨kb.cell 9 _ rfl, kb.free 9⟩
theorem set9 {w : World} {p : Addr} {v u : Value} {nb : Nat} (h : w.cell? p = some v) (hne : p.block ≠ nb) : (w.setCell ⟨nb, 9, none⟩ u).cell? p = some v := by
  rw [World.cell?_setCell_other _ _ _ _ (by rintro rfl; exact hne rfl)]
  exact h
/-- the turn is put behind the others -/
theorem turn_more {lo tn tc : Nat} {wx w6 : World} {b : FB} {s : FS} {TA MA UA : Option Addr} {ts : List Rf.TA} {v6 : Value} {idx : Int} {un uc mn mc : Nat} (h : Fo lo wx { b with T := .slice TA tn tc, ts := ts } s) (htn : ts.length = tn) (hg : wx.grownBy w6 (Value.slice TA tn tc).ownBlock)
    (hr : w6.ownsRow lo 103 3 v6 (tn + 1) (rowT ts ++ [.int .i64 idx, .slice UA un uc, .slice MA mn mc])) (hat : v6.ownBlock = (Value.slice TA tn tc).ownBlock ∨ v6.ownBlock = some wx.heap.size) (hgu : GrO wx UA un MA mn) (hil : idx ≤ s.g.last) (hle : tn + 1 ≤ 1000000) :
    Fo lo (w6.setCell ⟨b.nb, 9, none⟩ v6) { b with T := v6, ts := ts ++ [⟨idx, UA, un, uc, MA, mn, mc⟩] } s ∧ Dk.Fr (b.nb :: (Value.slice TA tn tc).ownBlock.toList) wx (w6.setCell ⟨b.nb, 9, none⟩ v6) := by
  have e1 : (ts ++ [(⟨idx, UA, un, uc, MA, mn, mc⟩ : Rf.TA)]).length = tn + 1 := by simp [htn]
  have e2 : rowT (ts ++ [(⟨idx, UA, un, uc, MA, mn, mc⟩ : Rf.TA)]) = rowT ts ++ [.int .i64 idx, .slice UA un uc, .slice MA mn mc] := rowT_append _ _
  have hr' : w6.ownsRow lo 103 3 v6 (ts ++ [(⟨idx, UA, un, uc, MA, mn, mc⟩ : Rf.TA)]).length (rowT (ts ++ [(⟨idx, UA, un, uc, MA, mn, mc⟩ : Rf.TA)])) := by rw [e1, e2]; exact hr
  refine h.turn (T' := v6) (ts' := ts ++ [⟨idx, UA, un, uc, MA, mn, mc⟩]) hg hr' ?_ ?_ ?_ (by rw [e1]; exact hle)
  · rcases hat with h | h
    · exact .inl h
    · exact .inr (.inl h)
  · intro t ht
    rcases List.mem_append.1 ht with h1 | h1
    · exact h.grp t h1
    · obtain rfl : t = ⟨idx, UA, un, uc, MA, mn, mc⟩ := by simpa using h1
      exact hgu
  · intro t ht
    simp at ht
    rw [← ht]
    exact hil
end Go.Proofs.YtjadfpcipicckaaGreat.Rf
