/-
  append of whatever bytes to bytes of the call's own (cut out of FieldDocT for a seat that lacks the document's reader). Condition: as the theorem states.
-/
import Derived.Test.YtgmpdifggaggdaaGreatDoorJFieldCatch
import Derived.Test.YtgmpdifggaggdaaGreatDoorJFieldCut
import Derived.Deep.RegionLaw
namespace Go.Proofs.YtgmpdifggaggdaaGreatDoor.Fld
open Go.RowKit

set_option maxRecDepth 100000 in
/-- append of whatever bytes to bytes of the call's own, at a step of a region that draws its order -/
theorem step_append_rd {w : World} {ops : Array Oper} {o : Oper} {a : Act} {K : Act → World → Prop} {Q : Exit → Act → World → Prop} {E : Prop} (hgd : o.guard = none) (s x : Operand)
    (ho : o.op = .call { callee := .builtin .append, args := #[s, x], argTypes := #[45, 45] })
    (w0 : World) (v : Value) (zs : List Int) (hs : a.eval s = v) (hown : Own w0 w v zs)
    (ad : Addr) (n c : Nat) (ys : List Int) (hx : a.eval x = .slice (some ad) n c) (hr : Rd w (some ad) n ys) (hb : zs.length + n ≤ 140737488355328)
    (h : ∀ v' w', Own w0 w' v' (zs ++ ys) → w.grownBy w' v.ownBlock → K (a.put o.dst v') w') : if Region.wanted o (yielded ops a.tmps) = true then Oper.wp Tryz.prog o a w K Q else E := by
  have hw : Region.wanted o (yielded ops a.tmps) = true := by simp [Region.wanted, hgd]
  rw [if_pos hw]
  obtain ⟨i, hi, hz, hsz, hby⟩ := byte_info
  obtain ⟨hb1, hby1, hrow⟩ := hown
  obtain ⟨hl, hm, hby2, hc⟩ := hr
  have hcat := bytes_append hby1 hby2
  obtain ⟨v', w', hrun, hrow', hg, _, _⟩ := run_append_own_at (P := Tryz.prog) w w0.heap.size 45 o.type 5 i _ 1 1 Tryz.underlying45 hi hz hsz hby rfl (by omega) v _ _ hrow ad n c (by8 ys) (by rw [by8_length]; omega) (by
    intro j u hu
    have hj : j < ys.length := by
      rcases Nat.lt_or_ge j ys.length with hj | hj
      · exact hj
      · rw [List.getElem?_eq_none (by rw [by8_length]; exact hj)] at hu; cases hu
    rw [by8_at ys j hj] at hu
    obtain ⟨b, off, he, hcell⟩ := hc (by omega)
    injection he with he
    subst he
    have := hcell j (by omega)
    rw [← hu, ← this]
    congr 1
    unfold Addr.add
    split <;> simp_all) (by8_one ys) (by unfold maxLen; omega) (by omega) hb1.size
  unfold Oper.wp execOp
  simp only [ho, resolve, invoke, builtin, Sem.run_bind, Sem.run_pure, Result.andThen_ok, List.map_toArray, List.map_cons, List.map_nil, hs, hx, hrun]
  refine h v' w' ⟨hb1.grown hg hb1.size ?_, hcat, ?_⟩ hg
  · intro k hk
    rcases hrow.2 with ⟨rfl, _⟩ | ⟨g, cap, cur, rfl, hg, _⟩
    · simp [Value.ownBlock] at hk
    · simp [Value.ownBlock] at hk; omega
  · rw [List.length_append, hl, by8_append]; exact hrow'

end Go.Proofs.YtgmpdifggaggdaaGreatDoor.Fld
