/-
  Several texts in one: Layer 12, a node that does not lead: Propose, Change and Read are refused; Last. Conditions: the node lies in memory. Layer 12, a node that does not lead, of which nothing is new: Out. Conditions: the node lies in memory; its hard state is as it was told last.
-/
import Derived.Test.YtjadfpcipicckaaGreatJRfW
import Derived.Test.YtjadfpcipicckaaGreatJRfL
namespace Go.Proofs.YtjadfpcipicckaaGreat.Rf
open Go.RowKit Go.Shelf Go.Proofs.YtjadfpcipicckaaGreat.Fld
open Go.Proofs.YtjadfpcipicckaaGreat.Qu (RdI)
set_option linter.unusedVariables false

theorem Fo.noRole {lo : Nat} {w : World} {b : FB} {s : FS} (h : Fo lo w b s) : Calls Tryz.prog 13 #[.pointer (some ⟨b.p.g, 0, none⟩)] w fun e w' => e = .returned (.int .i64 s.e.role) ∧ w = w' := El.role_any b.p s.e w h.el
set_option maxHeartbeats 800000 in
theorem fpropose {lo : Nat} {w : World} {b : FB} {s : FS} (A : Option Addr) (n c : Nat) (h : Fo lo w b s) : Calls Tryz.prog 8 #[.pointer (some ⟨b.nb, 0, none⟩), .slice A n c] w fun e w' => e = .returned (.tuple #[.int .i64 0, .int .i64 7]) ∧ w = w' := by
  have HRO := Lib.hid h.noRole
  have c0 := h.c0
  have q3 : (s.e.role != 3) = true := by simpa using h.role
  clear h
  generalize s.e.role = r at *
  go_enter Tryz.func8, Tryz.ntmps8
  go_wp2_with fail
  refine HRO.out.mono ?_
  rintro e w1 ⟨rfl, rfl⟩
  go_wp2
  go_ret2
  exact ⟨rfl, rfl⟩
set_option maxHeartbeats 800000 in
theorem fchange {lo : Nat} {w : World} {b : FB} {s : FS} (k x : Int) (h : Fo lo w b s) : Calls Tryz.prog 9 #[.pointer (some ⟨b.nb, 0, none⟩), .int .i64 k, .int .i64 x] w fun e w' => e = .returned (.tuple #[.int .i64 0, .int .i64 7]) ∧ w = w' := by
  have HRO := Lib.hid h.noRole
  have c0 := h.c0
  have q3 : (s.e.role != 3) = true := by simpa using h.role
  clear h
  generalize s.e.role = r at *
  go_enter Tryz.func9, Tryz.ntmps9
  go_wp2_with fail
  refine HRO.out.mono ?_
  rintro e w1 ⟨rfl, rfl⟩
  go_wp2
  go_ret2
  exact ⟨rfl, rfl⟩
set_option maxHeartbeats 800000 in
theorem fread {lo : Nat} {w : World} {b : FB} {s : FS} (k : Int) (h : Fo lo w b s) : Calls Tryz.prog 10 #[.pointer (some ⟨b.nb, 0, none⟩), .int .i64 k] w fun e w' => e = .returned (.int .i64 7) ∧ w = w' := by
  have HRO := Lib.hid h.noRole
  have c0 := h.c0
  have q3 : (s.e.role != 3) = true := by simpa using h.role
  clear h
  generalize s.e.role = r at *
  go_enter Tryz.func10, Tryz.ntmps10
  go_wp2_with fail
  refine HRO.out.mono ?_
  rintro e w1 ⟨rfl, rfl⟩
  go_wp2
  go_ret
  exact ⟨rfl, rfl⟩
set_option maxHeartbeats 800000 in
theorem flast {lo : Nat} {w : World} {b : FB} {s : FS} (h : Fo lo w b s) : Calls Tryz.prog 7 #[.pointer (some ⟨b.nb, 0, none⟩)] w fun e w' => e = .returned (.int .i64 s.g.last) ∧ ∃ m, w' = w.drewN m := by
  have HL := Lib.hid (h.last' w (Below.refl _ _))
  have c3 := h.c3
  clear h
  go_enter Tryz.func7, Tryz.ntmps7
  go_wp2_with fail
  refine HL.out.mono ?_
  rintro e w1 ⟨rfl, m, rfl⟩
  go_wp2
  go_ret
  exact ⟨rfl, m, rfl⟩
end Go.Proofs.YtjadfpcipicckaaGreat.Rf

namespace Go.Proofs.YtjadfpcipicckaaGreat.Rf
open Go.RowKit Go.Shelf Go.Proofs.YtjadfpcipicckaaGreat.Fld
open Go.Proofs.YtjadfpcipicckaaGreat.Qu (RdI)
set_option linter.unusedVariables false

/-- its block holds what it held, nothing else of it has changed -/
theorem Fo.same {lo : Nat} {w w' : World} {b : FB} {s : FS} (h : Fo lo w b s) (hf : Dk.Fr [b.nb] w w') (hb : Qu.Blk w' b.nb (foR b s) 60) : Fo lo w' b s := by
  obtain ⟨n1, n2, n3, n4, n5⟩ := h.nb_ne
  have nin : ∀ i, i ≠ b.nb → i ∉ [b.nb] := fun i h1 hm => h1 (by simpa using hm)
  have ni : NotI w [b.nb] := fun i hi cs hk => noti_nt h i (by simp at hi; simp [hi]) cs hk
  have n8 : Rg.Not8 w [b.nb] := fun i hi cs hk => not8_nt h i (by simp at hi; simp [hi]) cs hk
  refine ⟨hb, h.el.fr hf (fun i hi => nin i (h.all i hi).2.1), h.lg.fr hf (fun i hi => ?_) n8, Rg.row_of h.row (fun i hi => hf.block i (Rg.row_lo h.row i hi).2 (nin i (fun e => n3 (by rw [← e]; exact hi)))), h.grp0.fr hf ni, fun t ht => (h.grp t ht).fr hf ni, fun i hi => ⟨Nat.lt_of_lt_of_le (h.all i hi).1 hf.size, (h.all i hi).2⟩, h.lo, h.last, h.few, h.fts, h.role⟩
  simp only [List.mem_cons, Option.mem_toList] at hi
  rcases hi with rfl | hi
  · exact nin _ (Ne.symm n1)
  · exact nin _ (fun e => n2 (by rw [← e]; exact hi))
/-- a cell of the node's block that holds what it held -/
theorem Fo.keep {lo : Nat} {w : World} {b : FB} {s : FS} (h : Fo lo w b s) (i : Nat) (v : Value) (hv : (foR b s)[i]? = some v) (hi : i < 27) : Fo lo (w.setCell ⟨b.nb, i, none⟩ v) b s ∧ Dk.Fr [b.nb] w (w.setCell ⟨b.nb, i, none⟩ v) := by
  have hf : Dk.Fr [b.nb] w (w.setCell ⟨b.nb, i, none⟩ v) := (Dk.Fr.refl _ _).setCell _ (.inl (by simp)) _
  refine ⟨h.same hf ?_, hf⟩
  have := Qu.Blk.set h.blk i v (by show i < 27; exact hi)
  have e : (foR b s).setIfInBounds i v = foR b s := by
    apply Array.ext_getElem?
    intro j
    rw [Array.getElem?_setIfInBounds]
    split
    · rename_i e
      subst e
      rw [if_pos (by show i < 27; exact hi), hv]
    · rfl
  rw [e] at this
  exact this
theorem Fo.outs {lo : Nat} {w : World} {b : FB} {s : FS} (h : Fo lo w b s) : Fo lo (w.setCells b.nb 12 fr0) b s ∧ Dk.Fr [b.nb] w (w.setCells b.nb 12 fr0) := by
  have h1 := h.keep 12 (.bool false) rfl (by omega)
  have h2 := h1.1.keep 13 (.int .i64 0) rfl (by omega)
  have h3 := h2.1.keep 14 (.int .i64 0) rfl (by omega)
  have h4 := h3.1.keep 15 (.bool false) rfl (by omega)
  have h5 := h4.1.keep 16 (.int .i64 0) rfl (by omega)
  have h6 := h5.1.keep 17 (.int .i64 0) rfl (by omega)
  have h7 := h6.1.keep 18 (.slice none 0 0) rfl (by omega)
  have h8 := h7.1.keep 19 (.slice none 0 0) rfl (by omega)
  have h9 := h8.1.keep 20 (.slice none 0 0) rfl (by omega)
  have ha := h9.1.keep 21 (.int .i64 0) rfl (by omega)
  have hb := ha.1.keep 22 (.slice none 0 0) rfl (by omega)
  have hc := hb.1.keep 23 (.slice none 0 0) rfl (by omega)
  exact ⟨hc.1, (((((((((((h1.2.same h2.2).same h3.2).same h4.2).same h5.2).same h6.2).same h7.2).same h8.2).same h9.2).same ha.2).same hb.2).same hc.2)⟩
theorem ffr_range {lo : Nat} {w : World} {b : FB} {s : FS} (h : Fo lo w b s) : w.rangeAt b.nb 12 fr0 := by
  intro j v hv
  refine Qu.Blk.cell h.blk (12 + j) v ?_
  unfold fr0 at hv
  rcases j with _ | _ | _ | _ | _ | _ | _ | _ | _ | _ | _ | _ | j
  all_goals first | exact hv | (simp at hv)
theorem fthere12 {lo : Nat} {w : World} {b : FB} {s : FS} (h : Fo lo w b s) : w.there b.nb 12 12 := by
  intro j hj
  refine ⟨?_, h.free _⟩
  have hs : 12 + j < (foR b s).size := by show 12 + j < 27; omega
  rw [Qu.Blk.cell h.blk (12 + j) _ (Array.getElem?_eq_getElem hs)]
  rfl
theorem Fo.c10 {lo : Nat} {w : World} {b : FB} {s : FS} (h : Fo lo w b s) : w.cell? ⟨b.nb, 10, none⟩ = some (.int .i64 s.hT) := Qu.Blk.cell h.blk 10 _ rfl
theorem Fo.c11 {lo : Nat} {w : World} {b : FB} {s : FS} (h : Fo lo w b s) : w.cell? ⟨b.nb, 11, none⟩ = some (.int .i64 s.hV) := Qu.Blk.cell h.blk 11 _ rfl
end Go.Proofs.YtjadfpcipicckaaGreat.Rf
