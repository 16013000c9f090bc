/-
  Several texts in one: Layer 10, in the program: run, hope. Conditions: as each theorem states. Layer 10, in the program: hope, Tick. Conditions: as each theorem states.
-/
import Derived.Test.YtjadfpcipicckaaGreatJElC
namespace Go.Proofs.YtjadfpcipicckaaGreat.El
open Go.RowKit Go.Proofs.YtjadfpcipicckaaGreat.Qu Go.Proofs.YtjadfpcipicckaaGreat.Fld
set_option linter.unusedVariables false

/-- what a call leaves of a node, and the ballots that it answers, in new memory -/
structure Ans (w w' : World) (p : Pl) (s' : St) (v : Value) (out : List Bal) : Prop where
  did : Did w w' p s'
  out : w'.ownsRow w.heap.size 125 7 v out.length (rowB out)
theorem Ans.emp {w w' : World} {p : Pl} {s' : St} (h : Did w w' p s') : Ans w w' p s' (.slice none 0 0) [] := ⟨h, row_nil _ _ _ _⟩
theorem Ans.after {w w1 w' : World} {p : Pl} {s1 : St} {v : Value} {out : List Bal} (h : Did w w1 p s1) (k : OwnB w1 w' v out) : Ans w w' p s1 v out := ⟨h.to k.1, row_lower k.2 h.fr.size⟩
theorem Ans.then {w w1 w' : World} {p : Pl} {s1 s' : St} {v : Value} {out : List Bal} (h : Did w w1 p s1) (k : Ans w1 w' p s' v out) : Ans w w' p s' v out := ⟨h.then k.did, row_lower k.out h.fr.size⟩
theorem Ans.past {w w1 w' : World} {p : Pl} {s' : St} {v : Value} {out : List Bal} (hb : Below w.heap.size w w1) (k : Ans w1 w' p s' v out) : Ans w w' p s' v out := ⟨Did.past hb k.did, row_lower k.out hb.size⟩
theorem Im.lt {w : World} {p : Pl} {s : St} (h : Im w p s) : ∀ i ∈ p.ft, i < w.heap.size := by
  intro i hi
  simp only [Pl.ft, List.mem_cons, List.not_mem_nil, or_false] at hi
  rcases hi with rfl | rfl
  · exact Blk.lt h.blk
  · exact h.map.lt
theorem Im.new {w : World} {p : Pl} {s : St} (h : Im w p s) (i : Nat) (hi : w.heap.size ≤ i) : i ∉ p.ft := fun hm => by have := h.lt i hm; omega
theorem blk_fr {S : List Nat} {w w' : World} {B : Nat} {cs : Array Value} {ty : TypeId} (h : Blk w B cs ty) (hf : Dk.Fr S w w') (hn : B ∉ S) : Blk w' B cs ty := (hf.block B h.lt hn).trans h
theorem below_d1 (w : World) : Below w.heap.size w w.drew := (Below.refl _ _).drew
theorem outN_won (vs : List Int) (am : Int → Int) : outN vs am = 1 ↔ wonA vs am = true := by
  unfold outN
  cases wonA vs am <;> cases lostA vs am <;> simp
theorem outN_lost (vs : List Int) (am : Int → Int) (h : wonA vs am = false) : outN vs am = 2 ↔ lostA vs am = true := by
  unfold outN
  rw [h]
  cases lostA vs am <;> simp
theorem term_ok {s : St} (h : s.Ok) (hm : s.term ≠ MX) : ({ s with term := s.term + 1 } : St).Ok ∧ ({ s with term := s.term + 1, vote := s.id } : St).Ok := by
  have hh := (okHard_iff _ _).1 h.hard
  have hi := (okNode_iff _).1 h.id1
  have h2 := hh.1.2
  have h3 : okTerm (s.term + 1) = true := (okTerm_iff _).2 ⟨by omega, by omega⟩
  refine ⟨⟨h.id1, ?_, h.grp, h.pat1, h.w0, h.lm, h.role, h.lead, h.am⟩, ⟨h.id1, ?_, h.grp, h.pat1, h.w0, h.lm, h.role, h.lead, h.am⟩⟩
  · exact (okHard_iff _ _).2 ⟨(okTerm_iff _).1 h3, hh.2⟩
  · exact (okHard_iff _ _).2 ⟨(okTerm_iff _).1 h3, .inr hi⟩
set_option maxRecDepth 100000 in
set_option maxHeartbeats 3200000 in
theorem run_any (p : Pl) (s : St) (last lt : Int) (w : World) (h : Im w p s) : Calls Tryz.prog 109 #[.pointer (some ⟨p.g, 0, none⟩), entV last lt] w fun e w' => ∃ v, e = .returned v ∧ Ans w w' p (run s last lt).1 v (run s last lt).2 := by
  have hal := alloc_below w (.cells #[.int .i64 last, .int .i64 lt] 130)
  have hi := h.below hal
  have hd0 := Did.same h hal
  have hk := Blk.new w #[.int .i64 last, .int .i64 lt] 130
  have hnf := h.new w.heap.size (Nat.le_refl _)
  have hok := h.ok
  have hh := (okHard_iff _ _).1 h.ok.hard
  have ht1 := hh.1.1
  have ht2 := hh.1.2
  have c2 := hi.blk.cells.2.2.1
  have c3 := hi.blk.cells.2.2.2.1
  have c6 := hi.blk.cells.2.2.2.2.2.2.1
  unfold entV
  by_cases hm : s.term = MX
  · have hm' : s.term = 1099511627776 := hm
    have q1 : (s.term == 1099511627776) = true := by simp [hm']
    have h1 := hi.set 6 (.int .i64 0) (s' := { s with role := 0 }) rfl (by omega) rfl rfl rfl (role_ok h.ok (by omega))
    have HD := Lib.hid (hd0.then h1)
    have f6 := Blk.free hi.blk 6
    have HR := Lib.hid (show run s last lt = ({ s with role := 0 }, []) by unfold run; rw [if_pos hm])
    clear h hal hi hd0 hk h1 hh hm hm'
    go_enter Tryz.func109, Tryz.ntmps109
    go_wp2
    go_ret
    exact ⟨_, rfl, by rw [HR.out]; exact Ans.emp HD.out⟩
  have hm' : ¬ s.term = 1099511627776 := hm
  have q1 : (s.term == 1099511627776) = false := by simpa using hm'
  have j1 : IntKind.i64.wrap (s.term + 1) = s.term + 1 := IntWalk.i64_in _ (by have : MX = 1099511627776 := rfl; omega)
  have e0 := hi.blk.cells.1
  obtain ⟨o1, o2⟩ := term_ok hok hm
  have h2 := hi.set 2 (.int .i64 (s.term + 1)) (s' := { s with term := s.term + 1 }) rfl (by omega) rfl rfl rfl o1
  have h3 := (h2.im.set 3 (.int .i64 s.id) (s' := { s with term := s.term + 1, vote := s.id }) rfl (by omega) rfl rfl rfl o2).to (below_d1 _)
  have h4 := h3.im.set 6 (.int .i64 2) (s' := { s with term := s.term + 1, vote := s.id, role := 2 }) rfl (by omega) rfl rfl rfl (role_ok o2 (by omega))
  have f2 := Blk.free hi.blk 2
  have f3 := Blk.free hi.blk 3
  have f6 := Blk.free h3.im.blk 6
  have HD4 := Lib.hid (((hd0.then h2).then h3).then h4)
  have hbg := begin_any p _ _ h4.im
  have HB := Lib.hid (show Calls _ _ _ _ (fun e w' => e = .returned (.int .i64 (outN s.vs (onlyA s.id))) ∧ Did _ w' p (stood s)) from hbg)
  have HK4 := Lib.hid (blk_fr hk ((h2.fr.same h3.fr).same h4.fr) hnf)
  have HNF := Lib.hid hnf
  clear hbg
  cases hw : wonA s.vs (onlyA s.id) with
  | true =>
    have ho := (outN_won _ _).2 hw
    rw [ho] at HB
    have HR := Lib.hid (show run s last lt = (leadS (stood s), []) by unfold run; rw [if_neg hm, if_pos hw])
    clear h hal hi hd0 hk h2 h3 h4 hh hm hm' hnf hok o1 o2 ho
    go_enter Tryz.func109, Tryz.ntmps109
    go_wp2_with fail
    go_region
    go_wp2_with fail
    refine HB.out.mono ?_
    rintro e w1 ⟨rfl, hd5⟩
    have HD5 := Lib.hid (HD4.out.then hd5)
    clear hd5
    go_wp2_with fail
    refine (lead_any p _ _ HD5.out.im).mono ?_
    rintro e w2 ⟨rfl, hd6⟩
    have HD6 := Lib.hid (HD5.out.then hd6)
    clear hd6
    go_wp2
    go_ret
    exact ⟨_, rfl, by rw [HR.out]; exact Ans.emp HD6.out⟩
  | false =>
    have ho : ¬ outN s.vs (onlyA s.id) = 1 := fun e => by rw [(outN_won _ _).1 e] at hw; cases hw
    generalize outN s.vs (onlyA s.id) = o at *
    have q2 : (o == 1) = false := by simpa using ho
    have HR := Lib.hid (show run s last lt = (stood s, askAll (stood s) 3 (s.term + 1) last lt) by unfold run; rw [if_neg hm, if_neg (by rw [hw]; simp)]; rfl)
    clear h hal hi hd0 hk h2 h3 h4 hh hm hm' hnf hok o1 o2 ho
    go_enter Tryz.func109, Tryz.ntmps109
    go_wp2_with fail
    go_region
    go_wp2_with fail
    refine HB.out.mono ?_
    rintro e w1 ⟨rfl, hd5⟩
    have HD5 := Lib.hid (HD4.out.then hd5)
    have hk5 := blk_fr HK4.out hd5.fr HNF.out
    have d2 := hd5.im.blk.cells.2.2.1
    rw [show (stood s).term = s.term + 1 from rfl] at d2
    have b0 := hk5.cell 0 (.int .i64 last) rfl
    have b1 := hk5.cell 1 (.int .i64 lt) rfl
    have HA := Lib.hid (askAll_any p (stood s) 3 (s.term + 1) last lt w1.drew (HD5.out.to (below_d1 w1)).im)
    unfold entV at HA
    clear hd5 hk5
    go_wp2_with fail
    go_region_held3 (fun w' => w'.cell? ⟨p.g, 2, none⟩ = some (.int .i64 (s.term + 1)) ∧ w'.cell? ⟨w.heap.size, 0, none⟩ = some (.int .i64 last) ∧ w'.cell? ⟨w.heap.size, 1, none⟩ = some (.int .i64 lt)) (first | exact ⟨by assumption, by assumption, by assumption⟩ | go_keep) (first
      | (go_at_call 110; refine HA.out.mono ?_; rintro e w2 ⟨v2, rfl, hO⟩; have HO := Lib.hid hO; have g2 := (hO.1.cell (lt_of_cell (show w1.drew.cell? _ = some _ from d2))).trans d2; have g0 := (hO.1.cell (lt_of_cell (show w1.drew.cell? _ = some _ from b0))).trans b0; have g1 := (hO.1.cell (lt_of_cell (show w1.drew.cell? _ = some _ from b1))).trans b1; clear hO))
    all_goals
      go_wp2
      go_ret
      exact ⟨_, rfl, by rw [HR.out]; exact Ans.after (HD5.out.to (below_d1 w1)) HO.out⟩
end Go.Proofs.YtjadfpcipicckaaGreat.El

namespace Go.Proofs.YtjadfpcipicckaaGreat.El
open Go.RowKit Go.Proofs.YtjadfpcipicckaaGreat.Qu Go.Proofs.YtjadfpcipicckaaGreat.Fld
set_option linter.unusedVariables false

set_option maxRecDepth 100000 in
set_option maxHeartbeats 3200000 in
theorem hope_any (p : Pl) (s : St) (last lt : Int) (w : World) (h : Im w p s) : Calls Tryz.prog 76 #[.pointer (some ⟨p.g, 0, none⟩), entV last lt] w fun e w' => ∃ v, e = .returned v ∧ Ans w w' p (hope s last lt).1 v (hope s last lt).2 := by
  have hal := alloc_below w (.cells #[.int .i64 last, .int .i64 lt] 130)
  have hi := h.below hal
  have hd0 := Did.same h hal
  have hk := Blk.new w #[.int .i64 last, .int .i64 lt] 130
  have hnf := h.new w.heap.size (Nat.le_refl _)
  have hh := (okHard_iff _ _).1 h.ok.hard
  have ht1 := hh.1.1
  have ht2 : s.term ≤ 1099511627776 := hh.1.2
  have c6 := hi.blk.cells.2.2.2.2.2.2.1
  have c7 := hi.blk.cells.2.2.2.2.2.2.2.1
  unfold entV
  have j1 : IntKind.i64.wrap (s.term + 1) = s.term + 1 := IntWalk.i64_in _ (by omega)
  have h2 := hi.set 6 (.int .i64 1) (s' := { s with role := 1 }) rfl (by omega) rfl rfl rfl (role_ok h.ok (by omega))
  have h3 := h2.im.set 7 (.int .i64 0) (s' := { s with role := 1, lead := 0 }) rfl (by omega) rfl rfl rfl ⟨h.ok.id1, h.ok.hard, h.ok.grp, h.ok.pat1, h.ok.w0, h.ok.lm, by simp, by simp, h.ok.am⟩
  have f6 := Blk.free hi.blk 6
  have f7 := Blk.free h2.im.blk 7
  have HD3 := Lib.hid ((hd0.then h2).then h3)
  have hbg := begin_any p _ _ h3.im
  have HB := Lib.hid (show Calls _ _ _ _ (fun e w' => e = .returned (.int .i64 (outN s.vs (onlyA s.id))) ∧ Did _ w' p (hoped s)) from hbg)
  have HK3 := Lib.hid (blk_fr hk (h2.fr.same h3.fr) hnf)
  have HNF := Lib.hid hnf
  clear hbg
  cases hw : wonA s.vs (onlyA s.id) with
  | true =>
    have ho := (outN_won _ _).2 hw
    rw [ho] at HB
    have HR := Lib.hid (show hope s last lt = run (hoped s) last lt by unfold hope; rw [if_pos hw])
    clear h hal hi hd0 hk h2 h3 hh hnf ho
    go_enter Tryz.func76, Tryz.ntmps76
    go_wp2_with fail
    refine HB.out.mono ?_
    rintro e w1 ⟨rfl, hd5⟩
    have HD5 := Lib.hid (HD3.out.then hd5)
    have hk5 := blk_fr HK3.out hd5.fr HNF.out
    have b0 := hk5.cell 0 (.int .i64 last) rfl
    have b1 := hk5.cell 1 (.int .i64 lt) rfl
    have HU := Lib.hid (run_any p (hoped s) last lt w1 HD5.out.im)
    unfold entV at HU
    clear hd5 hk5
    go_wp2_with fail
    refine HU.out.mono ?_
    rintro e w2 ⟨v2, rfl, hA⟩
    have HA := Lib.hid hA
    clear hA
    go_wp2
    go_ret
    exact ⟨_, rfl, by rw [HR.out]; exact Ans.then HD5.out HA.out⟩
  | false =>
    have ho : ¬ outN s.vs (onlyA s.id) = 1 := fun e => by rw [(outN_won _ _).1 e] at hw; cases hw
    generalize outN s.vs (onlyA s.id) = o at *
    have q2 : (o == 1) = false := by simpa using ho
    have HR := Lib.hid (show hope s last lt = (hoped s, askAll (hoped s) 1 (s.term + 1) last lt) by unfold hope; rw [if_neg (by rw [hw]; simp)]; rfl)
    clear h hal hi hd0 hk h2 h3 hh hnf ho
    go_enter Tryz.func76, Tryz.ntmps76
    go_wp2_with fail
    refine HB.out.mono ?_
    rintro e w1 ⟨rfl, hd5⟩
    have HD5 := Lib.hid (HD3.out.then hd5)
    have hk5 := blk_fr HK3.out hd5.fr HNF.out
    have d2 := hd5.im.blk.cells.2.2.1
    rw [show (hoped s).term = s.term from rfl] at d2
    have b0 := hk5.cell 0 (.int .i64 last) rfl
    have b1 := hk5.cell 1 (.int .i64 lt) rfl
    have HA := Lib.hid (askAll_any p (hoped s) 1 (s.term + 1) last lt w1.drew (HD5.out.to (below_d1 w1)).im)
    unfold entV at HA
    clear hd5 hk5
    go_wp2_with fail
    go_region_held3 (fun w' => w'.cell? ⟨p.g, 2, none⟩ = some (.int .i64 s.term) ∧ w'.cell? ⟨w.heap.size, 0, none⟩ = some (.int .i64 last) ∧ w'.cell? ⟨w.heap.size, 1, none⟩ = some (.int .i64 lt)) (first | exact ⟨by assumption, by assumption, by assumption⟩ | go_keep) (first
      | (go_at_call 110; refine HA.out.mono ?_; rintro e w2 ⟨v2, rfl, hO⟩; have HO := Lib.hid hO; have g2 := (hO.1.cell (lt_of_cell (show w1.drew.cell? _ = some _ from d2))).trans d2; have g0 := (hO.1.cell (lt_of_cell (show w1.drew.cell? _ = some _ from b0))).trans b0; have g1 := (hO.1.cell (lt_of_cell (show w1.drew.cell? _ = some _ from b1))).trans b1; clear hO))
    all_goals
      go_wp2
      go_ret
      exact ⟨_, rfl, by rw [HR.out]; exact Ans.after (HD5.out.to (below_d1 w1)) HO.out⟩
end Go.Proofs.YtjadfpcipicckaaGreat.El
