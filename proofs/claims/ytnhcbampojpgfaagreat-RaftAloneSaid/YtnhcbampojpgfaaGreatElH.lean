/-
  Layer 10, in the program: hope, Tick. Conditions: as each theorem states.
-/
import Derived.Test.YtnhcbampojpgfaaGreatElE
namespace Go.Proofs.YtnhcbampojpgfaaGreat.El
open Go.RowKit Go.Proofs.YtnhcbampojpgfaaGreat.Qu Go.Proofs.YtnhcbampojpgfaaGreat.Fld
set_option linter.unusedVariables false

set_option maxRecDepth 100000 in
set_option maxHeartbeats 3200000 in
theorem hope_any (p : Pl) (s : St) (last lt : Int) (w : World) (h : Im w p s) : Calls Tryz.prog 113 #[.pointer (some ⟨p.g, 0, none⟩), entV last lt] w fun e w' => ∃ v, e = .returned v ∧ Ans w w' p (hope s last lt).1 v (hope s last lt).2 := by
  have hal := alloc_below w (.cells #[.int .i64 last, .int .i64 lt] 168)
  have hi := h.below hal
  have hd0 := Did.same h hal
  have hk := Blk.new w #[.int .i64 last, .int .i64 lt] 168
  have hnf := h.new w.heap.size (Nat.le_refl _)
  have hh := (okHard_iff _ _).1 h.ok.hard
  have ht1 := hh.1.1
  have ht2 : s.term ≤ 1099511627776 := hh.1.2
  have c6 := hi.blk.cells.2.2.2.2.2.2.1
  have c7 := hi.blk.cells.2.2.2.2.2.2.2.1
  unfold entV
  have j1 : IntKind.i64.wrap (s.term + 1) = s.term + 1 := IntWalk.i64_in _ (by omega)
  have h2 := hi.set 6 (.int .i64 1) (s' := { s with role := 1 }) rfl (by omega) rfl rfl rfl (role_ok h.ok (by omega))
  have h3 := h2.im.set 7 (.int .i64 0) (s' := { s with role := 1, lead := 0 }) rfl (by omega) rfl rfl rfl ⟨h.ok.id1, h.ok.hard, h.ok.grp, h.ok.pat1, h.ok.w0, h.ok.lm, by simp, by simp, h.ok.am⟩
  have f6 := Blk.free hi.blk 6
  have f7 := Blk.free h2.im.blk 7
  have HD3 := Lib.hid ((hd0.then h2).then h3)
  have hbg := begin_any p _ _ h3.im
  have HB := Lib.hid (show Calls _ _ _ _ (fun e w' => e = .returned (.int .i64 (outN s.vs (onlyA s.id))) ∧ Did _ w' p (hoped s)) from hbg)
  have HK3 := Lib.hid (blk_fr hk (h2.fr.same h3.fr) hnf)
  have HNF := Lib.hid hnf
  clear hbg
  cases hw : wonA s.vs (onlyA s.id) with
  | true =>
    have ho := (outN_won _ _).2 hw
    rw [ho] at HB
    have HR := Lib.hid (show hope s last lt = run (hoped s) last lt by unfold hope; rw [if_pos hw])
    clear h hal hi hd0 hk h2 h3 hh hnf ho
    go_enter Tryz.func113, Tryz.ntmps113
    go_wp2_with fail
    refine HB.out.mono ?_
    rintro e w1 ⟨rfl, hd5⟩
    have HD5 := Lib.hid (HD3.out.then hd5)
    have hk5 := blk_fr HK3.out hd5.fr HNF.out
    have b0 := hk5.cell 0 (.int .i64 last) rfl
    have b1 := hk5.cell 1 (.int .i64 lt) rfl
    have HU := Lib.hid (run_any p (hoped s) last lt w1 HD5.out.im)
    unfold entV at HU
    clear hd5 hk5
    go_wp2_with fail
    refine HU.out.mono ?_
    rintro e w2 ⟨v2, rfl, hA⟩
    have HA := Lib.hid hA
    clear hA
    go_wp2
    go_ret
    exact ⟨_, rfl, by rw [HR.out]; exact Ans.then HD5.out HA.out⟩
  | false =>
    have ho : ¬ outN s.vs (onlyA s.id) = 1 := fun e => by rw [(outN_won _ _).1 e] at hw; cases hw
    generalize outN s.vs (onlyA s.id) = o at *
    have q2 : (o == 1) = false := by simpa using ho
    have HR := Lib.hid (show hope s last lt = (hoped s, askAll (hoped s) 1 (s.term + 1) last lt) by unfold hope; rw [if_neg (by rw [hw]; simp)]; rfl)
    clear h hal hi hd0 hk h2 h3 hh hnf ho
    go_enter Tryz.func113, Tryz.ntmps113
    go_wp2_with fail
    refine HB.out.mono ?_
    rintro e w1 ⟨rfl, hd5⟩
    have HD5 := Lib.hid (HD3.out.then hd5)
    have hk5 := blk_fr HK3.out hd5.fr HNF.out
    have d2 := hd5.im.blk.cells.2.2.1
    rw [show (hoped s).term = s.term from rfl] at d2
    have b0 := hk5.cell 0 (.int .i64 last) rfl
    have b1 := hk5.cell 1 (.int .i64 lt) rfl
    have HA := Lib.hid (askAll_any p (hoped s) 1 (s.term + 1) last lt w1.drew (HD5.out.to (below_d1 w1)).im)
    unfold entV at HA
    clear hd5 hk5
    go_wp2_with fail
    go_region_held3 (fun w' => w'.cell? ⟨p.g, 2, none⟩ = some (.int .i64 s.term) ∧ w'.cell? ⟨w.heap.size, 0, none⟩ = some (.int .i64 last) ∧ w'.cell? ⟨w.heap.size, 1, none⟩ = some (.int .i64 lt)) (first | exact ⟨by assumption, by assumption, by assumption⟩ | go_keep) (first
      | (go_at_call 191; refine HA.out.mono ?_; rintro e w2 ⟨v2, rfl, hO⟩; have HO := Lib.hid hO; have g2 := (hO.1.cell (lt_of_cell (show w1.drew.cell? _ = some _ from d2))).trans d2; have g0 := (hO.1.cell (lt_of_cell (show w1.drew.cell? _ = some _ from b0))).trans b0; have g1 := (hO.1.cell (lt_of_cell (show w1.drew.cell? _ = some _ from b1))).trans b1; clear hO))
    all_goals
      go_wp2
      go_ret
      exact ⟨_, rfl, by rw [HR.out]; exact Ans.after (HD5.out.to (below_d1 w1)) HO.out⟩
end Go.Proofs.YtnhcbampojpgfaaGreat.El
