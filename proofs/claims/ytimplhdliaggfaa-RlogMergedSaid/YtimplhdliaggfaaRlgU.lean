/-
  Layer 8: do: a step at both logs. Conditions: both lie in memory that they do not share, in one state; the step's entries lie in older memory.
-/
import Derived.Test.YtimplhdliaggfaaRlgS
import Derived.Test.YtimplhdliaggfaaRlgM
import Derived.Test.YtimplhdliaggfaaRlgN
namespace Go.Proofs.Ytimplhdliaggfaa.Rg
open Go.RowKit Go.Proofs.Ytimplhdliaggfaa.Fld
set_option linter.unusedVariables false

/-- what do leaves, and answers -/
def DoIs (W0 w : World) (g : Nat) (v : Value) (r : Nat) (rv : Value) (s' : St) (e : Ending) (w' : World) : Prop := e = .returned (.bool true) ∧ ∃ v' xs' rv' rs', Pr W0 w' g v' s' xs' r rv' s' rs' ∧ Dk.Fr (g :: v.ownBlock.toList ++ r :: rv.ownBlock.toList) w w'
theorem DoIs.mk' {W0 w w1 w2 w3 : World} {g : Nat} {v : Value} {r : Nat} {rv : Value} {s s' : St} {xs xs' rs rs' : List EA} {v' rv' : Value} (h1 : Pr W0 w1 g v s xs r rv s rs) (hb : Below w.heap.size w w1) (d1 : Done W0.heap.size w1 w2 g v s' v' xs') (d2 : DoneR W0 w2 w3 r rv s' rv' rs') : DoIs W0 w g v r rv s' (.returned (.bool true)) w3 := by
  refine ⟨rfl, v', xs', rv', rs', (h1.prog d1).ref d2, ?_⟩
  exact (((Dk.Fr.below hb).same (d1.fr.mono (fun i hi => List.mem_append.2 (.inl hi)))).same (d2.fr.mono (fun i hi => List.mem_append.2 (.inr hi))))
theorem box_kept {W0 w1 w2 : World} {g : Nat} {v v' : Value} {s s' : St} {xs xs' : List EA} {X : Nat} {cs : Array Value} {ty : TypeId} (h : Im W0.heap.size w1 g s v xs) (hX : ∀ i ∈ g :: v.ownBlock.toList, i ≠ X) (hb : Blk w1 X cs ty) (d : Done W0.heap.size w1 w2 g v s' v' xs') : Blk w2 X cs ty := hb.of (d.fr.block X hb.lt (fun hm => hX X hm rfl))
set_option maxRecDepth 100000 in
set_option maxHeartbeats 6400000 in
theorem do_any (W0 : World) (g : Nat) (v : Value) (s : St) (xs : List EA) (r : Nat) (rv : Value) (rs : List EA) (x : Stp) (w : World) (h : Pr W0 w g v s xs r rv s rs) (hx : x.Ok W0) (hxs : xs.length ≤ 100000) (hn : x.n ≤ 100000) : Calls Try.prog 10 #[.pointer (some ⟨g, 0, none⟩), .pointer (some ⟨r, 0, none⟩), stpV x] w (DoIs W0 w g v r rv (stDo x s)) := by
  obtain ⟨d, i, t, A, n, c, ls⟩ := x
  obtain ⟨hrd, hnc, hcm, hnil, hlo, hhi⟩ := hx
  simp only at hrd hnc hcm hnil hlo hhi hn
  unfold stpV
  simp only
  have hrs : rs.length ≤ 100000 := by
    have h1 := h.im.n
    have h2 := h.rm.n
    omega
  have hbel := alloc_below' w (.cells #[.int .i64 d, .int .i64 i, .int .i64 t, .slice A n c] 33)
  have KB := Lib.hid (Blk.new w #[.int .i64 d, .int .i64 i, .int .i64 t, .slice A n c] 33)
  have HP := Lib.hid (h.below hbel)
  have HBE := Lib.hid hbel
  have HX := Lib.hid (show ∀ j ∈ g :: v.ownBlock.toList, j ≠ w.heap.size from fun j hj => by have := (h.im.foot j hj).2; omega)
  have HRD := Lib.hid hrd
  have HNIL := Lib.hid hnil
  have c0 := KB.out.cell 0 _ rfl
  have c1 := KB.out.cell 1 _ rfl
  have c2 := KB.out.cell 2 _ rfl
  have c3 := KB.out.cell 3 _ rfl
  obtain ⟨w1, hw1⟩ : ∃ w1, w.alloc (.cells #[.int .i64 d, .int .i64 i, .int .i64 t, .slice A n c] 33) = w1 := ⟨_, rfl⟩
  have HW := Lib.hid hw1
  rw [hw1] at KB HP HBE c0 c1 c2 c3
  clear h hbel hrd hnil hw1
  by_cases d0 : d = 0
  · have HSD := Lib.hid (show stDo ⟨d, i, t, A, n, c, ls⟩ s = stAdd s (ens ls) by unfold stDo; simp only;  rw [if_pos d0])
    subst d0
    rw [HSD.out]
    go_enter Try.func10, Try.ntmps10
    go_wp2_with fail
    rw [HW.out]
    refine (add_any W0.heap.size g s v xs A n c ls w1 HP.out.im HP.out.rm.old.size (HRD.out.below HP.out.rm.old) HNIL.out (by omega) (by omega)).mono ?_
    rintro e w2 ⟨v', xs', rfl, hd⟩
    have HD := Lib.hid hd
    have KB2 := Lib.hid (box_kept HP.out.im HX.out KB.out hd)
    have HP2 := Lib.hid (HP.out.prog hd)
    clear hd
    have b1 := KB2.out.cell 1 _ rfl
    have b2 := KB2.out.cell 2 _ rfl
    have b3 := KB2.out.cell 3 _ rfl
    go_wp2_with fail
    refine (radd_any W0 r s rv rs A n c ls w2 HP2.out.rm HRD.out HNIL.out (by omega) (by omega)).mono ?_
    rintro e w3 ⟨rv', rs', rfl, hd2⟩
    have HD2 := Lib.hid hd2
    clear hd2
    go_wp2
    go_ret
    exact DoIs.mk' HP.out HBE.out HD.out HD2.out
  have e0 : (d == 0) = false := by simp [d0]
  by_cases d1 : d = 1
  · have HSD := Lib.hid (show stDo ⟨d, i, t, A, n, c, ls⟩ s = (mrg s i t (ens ls)).2.2 by unfold stDo; simp only; rw [if_neg d0]; rw [if_pos d1])
    subst d1
    rw [HSD.out]
    obtain ⟨res, hres⟩ : ∃ res, mrg s i t (ens ls) = res := ⟨_, rfl⟩
    obtain ⟨k1, k2, s2⟩ := res
    have HRES := Lib.hid hres
    rw [hres]
    clear hres
    go_enter Try.func10, Try.ntmps10
    go_wp2_with fail
    rw [HW.out]
    refine (merge_any W0 g s v xs A n c ls i t w1 HP.out.im HP.out.rm.old HRD.out hnc hcm HNIL.out (by omega) (by omega) hlo hhi).mono ?_
    rintro e w2 ⟨v', xs', rfl, hd⟩
    rw [HRES.out] at hd
    simp only [HRES.out]
    have HD := Lib.hid hd
    have KB2 := Lib.hid (box_kept HP.out.im HX.out KB.out hd)
    have HP2 := Lib.hid (HP.out.prog hd)
    clear hd
    have b1 := KB2.out.cell 1 _ rfl
    have b2 := KB2.out.cell 2 _ rfl
    have b3 := KB2.out.cell 3 _ rfl
    go_wp2_with fail
    refine (rmerge_any W0 r s rv rs A n c ls i t w2 HP2.out.rm HRD.out hnc hcm HNIL.out (by omega) (by omega)).mono ?_
    rintro e w3 ⟨rv', rs', rfl, hd2⟩
    rw [HRES.out] at hd2
    simp only [HRES.out]
    have HD2 := Lib.hid hd2
    clear hd2
    go_wp2
    go_ret
    exact DoIs.mk' HP.out HBE.out HD.out HD2.out
  have e1 : (d == 1) = false := by simp [d1]
  by_cases d2 : d = 2
  · have HSD := Lib.hid (show stDo ⟨d, i, t, A, n, c, ls⟩ s = stCom s i by unfold stDo; simp only; rw [if_neg d0]; rw [if_neg d1]; rw [if_pos d2])
    subst d2
    rw [HSD.out]
    go_enter Try.func10, Try.ntmps10
    go_wp2_with fail
    rw [HW.out]
    refine (commit_any W0.heap.size g s v xs i w1 HP.out.im).mono ?_
    rintro e w2 ⟨rfl, hd⟩
    have HD := Lib.hid hd
    have KB2 := Lib.hid (box_kept HP.out.im HX.out KB.out hd)
    have HP2 := Lib.hid (HP.out.prog hd)
    clear hd
    have b1 := KB2.out.cell 1 _ rfl
    have b2 := KB2.out.cell 2 _ rfl
    have b3 := KB2.out.cell 3 _ rfl
    go_wp2_with fail
    refine (rcommit_any W0 r s rv rs i w2 HP2.out.rm).mono ?_
    rintro e w3 ⟨rv', rs', rfl, hd2⟩
    have HD2 := Lib.hid hd2
    clear hd2
    go_wp2
    go_ret
    exact DoIs.mk' HP.out HBE.out HD.out HD2.out
  have e2 : (d == 2) = false := by simp [d2]
  by_cases d3 : d = 3
  · have HSD := Lib.hid (show stDo ⟨d, i, t, A, n, c, ls⟩ s = stApp s i by unfold stDo; simp only; rw [if_neg d0]; rw [if_neg d1]; rw [if_neg d2]; rw [if_pos d3])
    subst d3
    rw [HSD.out]
    go_enter Try.func10, Try.ntmps10
    go_wp2_with fail
    rw [HW.out]
    refine (apply_any W0.heap.size g s v xs i w1 HP.out.im).mono ?_
    rintro e w2 ⟨rfl, hd⟩
    have HD := Lib.hid hd
    have KB2 := Lib.hid (box_kept HP.out.im HX.out KB.out hd)
    have HP2 := Lib.hid (HP.out.prog hd)
    clear hd
    have b1 := KB2.out.cell 1 _ rfl
    have b2 := KB2.out.cell 2 _ rfl
    have b3 := KB2.out.cell 3 _ rfl
    go_wp2_with fail
    refine (rapply_any W0 r s rv rs i w2 HP2.out.rm).mono ?_
    rintro e w3 ⟨rv', rs', rfl, hd2⟩
    have HD2 := Lib.hid hd2
    clear hd2
    go_wp2
    go_ret
    exact DoIs.mk' HP.out HBE.out HD.out HD2.out
  have e3 : (d == 3) = false := by simp [d3]
  by_cases d4 : d = 4
  · have HSD := Lib.hid (show stDo ⟨d, i, t, A, n, c, ls⟩ s = stCpt s i by unfold stDo; simp only; rw [if_neg d0]; rw [if_neg d1]; rw [if_neg d2]; rw [if_neg d3]; rw [if_pos d4])
    subst d4
    rw [HSD.out]
    go_enter Try.func10, Try.ntmps10
    go_wp2_with fail
    rw [HW.out]
    refine (compact_any W0.heap.size g s v xs i w1 HP.out.im).mono ?_
    rintro e w2 ⟨v', xs', rfl, hd⟩
    have HD := Lib.hid hd
    have KB2 := Lib.hid (box_kept HP.out.im HX.out KB.out hd)
    have HP2 := Lib.hid (HP.out.prog hd)
    clear hd
    have b1 := KB2.out.cell 1 _ rfl
    have b2 := KB2.out.cell 2 _ rfl
    have b3 := KB2.out.cell 3 _ rfl
    go_wp2_with fail
    refine (rcompact_any W0 r s rv rs i w2 HP2.out.rm (by omega)).mono ?_
    rintro e w3 ⟨rv', rs', rfl, hd2⟩
    have HD2 := Lib.hid hd2
    clear hd2
    go_wp2
    go_ret
    exact DoIs.mk' HP.out HBE.out HD.out HD2.out
  have e4 : (d == 4) = false := by simp [d4]
  by_cases d5 : d = 5
  · have HSD := Lib.hid (show stDo ⟨d, i, t, A, n, c, ls⟩ s = stRst s i t by unfold stDo; simp only; rw [if_neg d0]; rw [if_neg d1]; rw [if_neg d2]; rw [if_neg d3]; rw [if_neg d4]; rw [if_pos d5])
    subst d5
    rw [HSD.out]
    go_enter Try.func10, Try.ntmps10
    go_wp2_with fail
    rw [HW.out]
    refine (reset_any W0.heap.size g s v xs i t w1 HP.out.im).mono ?_
    rintro e w2 ⟨v', xs', rfl, hd⟩
    have HD := Lib.hid hd
    have KB2 := Lib.hid (box_kept HP.out.im HX.out KB.out hd)
    have HP2 := Lib.hid (HP.out.prog hd)
    clear hd
    have b1 := KB2.out.cell 1 _ rfl
    have b2 := KB2.out.cell 2 _ rfl
    have b3 := KB2.out.cell 3 _ rfl
    go_wp2_with fail
    refine (rreset_any W0 r s rv rs i t w2 HP2.out.rm).mono ?_
    rintro e w3 ⟨rv', rs', rfl, hd2⟩
    have HD2 := Lib.hid hd2
    clear hd2
    go_wp2
    go_ret
    exact DoIs.mk' HP.out HBE.out HD.out HD2.out
  have e5 : (d == 5) = false := by simp [d5]
  have HSD := Lib.hid (show stDo ⟨d, i, t, A, n, c, ls⟩ s = s by unfold stDo; simp only; rw [if_neg d0, if_neg d1, if_neg d2, if_neg d3, if_neg d4, if_neg d5])
  rw [HSD.out]
  go_enter Try.func10, Try.ntmps10
  go_wp2
  go_ret
  rw [HW.out]
  exact DoIs.mk' HP.out HBE.out (Done.same HP.out.im (Below.refl _ _)) (DoneR.same HP.out.rm (Below.refl _ _))
end Go.Proofs.Ytimplhdliaggfaa.Rg
