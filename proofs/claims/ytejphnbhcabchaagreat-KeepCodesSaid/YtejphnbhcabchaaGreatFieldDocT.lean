/-
  What the document's reader's Text answers, and what becomes of the reader. Conditions: the reader lies in memory as it was made.
-/
import Derived.Test.YtejphnbhcabchaaGreatFieldDocI
import Derived.Deep.RegionLaw
namespace Go.Proofs.YtejphnbhcabchaaGreat.Fld
open Go.RowKit

set_option maxRecDepth 100000 in
/-- append of whatever bytes to bytes of the call's own, at a step of a region that draws its order -/
theorem step_append_rd {w : World} {ops : Array Oper} {o : Oper} {a : Act} {K : Act → World → Prop} {Q : Exit → Act → World → Prop} {E : Prop} (hgd : o.guard = none) (s x : Operand)
    (ho : o.op = .call { callee := .builtin .append, args := #[s, x], argTypes := #[36, 36] })
    (w0 : World) (v : Value) (zs : List Int) (hs : a.eval s = v) (hown : Own w0 w v zs)
    (ad : Addr) (n c : Nat) (ys : List Int) (hx : a.eval x = .slice (some ad) n c) (hr : Rd w (some ad) n ys) (hb : zs.length + n ≤ 140737488355328)
    (h : ∀ v' w', Own w0 w' v' (zs ++ ys) → w.grownBy w' v.ownBlock → K (a.put o.dst v') w') : if Region.wanted o (yielded ops a.tmps) = true then Oper.wp Tryz.prog o a w K Q else E := by
  have hw : Region.wanted o (yielded ops a.tmps) = true := by simp [Region.wanted, hgd]
  rw [if_pos hw]
  obtain ⟨i, hi, hz, hsz, hby⟩ := byte_info
  obtain ⟨hb1, hby1, hrow⟩ := hown
  obtain ⟨hl, hm, hby2, hc⟩ := hr
  have hcat := bytes_append hby1 hby2
  obtain ⟨v', w', hrun, hrow', hg, _, _⟩ := run_append_own_at (P := Tryz.prog) w w0.heap.size 36 o.type 5 i _ 1 1 Tryz.underlying36 hi hz hsz hby rfl (by omega) v _ _ hrow ad n c (by8 ys) (by rw [by8_length]; omega) (by
    intro j u hu
    have hj : j < ys.length := by
      rcases Nat.lt_or_ge j ys.length with hj | hj
      · exact hj
      · rw [List.getElem?_eq_none (by rw [by8_length]; exact hj)] at hu; cases hu
    rw [by8_at ys j hj] at hu
    obtain ⟨b, off, he, hcell⟩ := hc (by omega)
    injection he with he
    subst he
    have := hcell j (by omega)
    rw [← hu, ← this]
    congr 1
    unfold Addr.add
    split <;> simp_all) (by8_one ys) (by unfold maxLen; omega) (by omega) hb1.size
  unfold Oper.wp execOp
  simp only [ho, resolve, invoke, builtin, Sem.run_bind, Sem.run_pure, Result.andThen_ok, List.map_toArray, List.map_cons, List.map_nil, hs, hx, hrun]
  refine h v' w' ⟨hb1.grown hg hb1.size ?_, hcat, ?_⟩ hg
  · intro k hk
    rcases hrow.2 with ⟨rfl, _⟩ | ⟨g, cap, cur, rfl, hg, _⟩
    · simp [Value.ownBlock] at hk
    · simp [Value.ownBlock] at hk; omega
  · rw [List.length_append, hl, by8_append]; exact hrow'

theorem Rd.window {w : World} {b off n : Nat} {zs : List Int} (hr : Rd w (some ⟨b, off, none⟩) n zs) (f v : Nat) (h : f + v ≤ n) (a : Addr) (ha : 0 < v → a = ⟨b, off + f, none⟩) : Rd w (some a) v ((zs.drop f).take v) := by
  obtain ⟨h1, h2, h3, h4⟩ := hr
  refine ⟨by rw [List.length_take, List.length_drop]; omega, by omega, bytes_take (bytes_drop h3 f) v, fun hv => ?_⟩
  obtain ⟨b', off', he, hc⟩ := h4 (by omega)
  injection he with he
  injection he with e1 e2
  subst e1 e2
  refine ⟨b, off + f, by rw [ha hv], fun i hi => ?_⟩
  rw [Nat.add_assoc, hc (f + i) (by omega), List.getD_eq_getElem?_getD, List.getD_eq_getElem?_getD, List.getElem?_take, if_pos hi, List.getElem?_drop]
def DGotT (h : Nat) (w : World) (t rest : List Int) (bad : Bool) (e : Ending) (w' : World) : Prop := ∃ A n cap, e = .returned (.slice A n cap) ∧ Rd w' A n t ∧ Chg h w w' ∧ DocR w' h rest bad
/-- 's[f:u]' -/
theorem run_mid (b off n cap f u : Nat) (hf : f ≤ u) (hu : u ≤ cap) : ∃ a : Addr, (∀ W : World, (Instr.slice 36 (.slice (some ⟨b, off, none⟩) n cap) (some (.int .i64 (f : Int))) (some (.int .i64 (u : Int))) none).run Tryz.prog W = .ok (.slice (some a) (u - f) (cap - f)) W) ∧ (0 < u - f → a = ⟨b, off + f, none⟩) := by
  by_cases h : cap = f
  · refine ⟨⟨b, off, none⟩, fun W => ?_, fun h' => by omega⟩
    have h1 : ∀ z : Nat, (0 : Int) ≤ (z : Int) := fun z => by omega
    obtain rfl : u = f := by omega
    subst h
    go_simp
  · refine ⟨⟨b, off + f, none⟩, fun W => ?_, fun _ => rfl⟩
    have h1 : (0 : Int) ≤ (f : Int) := by omega
    have h2 : (f : Int) ≤ (u : Int) := by omega
    have h3 : (u : Int) ≤ (cap : Int) := by omega
    go_simp

set_option maxRecDepth 100000 in
set_option maxHeartbeats 1600000 in
theorem dtext_ok (h : Nat) (rest : List Int) (w : World) (t : DocR w h rest false) (tx r : List Int) (hc : cutText rest = some (tx, r)) (most : Int) (hm : (tx.length : Int) ≤ most) (hmm : most ≤ 9223372036854775807) :
    Calls Tryz.prog 71 #[.pointer (some ⟨h, 0, none⟩), .int .i64 most] w (DGotT h w tx r false) := by
  obtain ⟨A, n, cap, p, zs, t, rfl⟩ := t
  unfold cutText at hc
  cases hcn : cutNum (zs.drop p) with
  | none => rw [hcn] at hc; cases hc
  | some q =>
    obtain ⟨v, rr⟩ := q
    rw [hcn] at hc
    simp only at hc
    by_cases hvr : v ≤ rr.length
    · rw [if_pos hvr] at hc
      simp only [Option.some.injEq, Prod.mk.injEq] at hc
      obtain ⟨rfl, rfl⟩ := hc
      obtain ⟨k, hn, hk0, hkl, rfl, _⟩ := cutNum_next _ (bytes_drop t.2.1.2.2.1 p) v rr hcn
      rw [List.length_take, List.length_drop, List.length_drop] at hm
      rw [List.length_drop] at hkl
      rw [List.length_drop, List.length_drop] at hvr
      have hzl := t.2.1.1
      have hpn := t.2.2.1
      have hnc := t.2.2.2.1
      have hn47 := t.2.2.2.2
      rw [hzl] at hvr hkl hm
      obtain ⟨b, off, rfl, hcell⟩ := t.at (by omega)
      have HT := Lib.hid t
      have HN := Lib.hid (next_some h _ n cap p zs w t v false k hn)
      obtain ⟨a, hsl, hsa⟩ := run_mid b off n cap (p + k) (p + k + v) (by omega) (by omega)
      rw [show p + k + v - (p + k) = v by omega] at hsl hsa
      have HSA := Lib.hid hsa
      have HSL := Lib.hid hsl
      have HTX := Lib.hid (show ((zs.drop p).drop k).take v = (zs.drop (p + k)).take v by rw [List.drop_drop])
      have HRS := Lib.hid (show ((zs.drop p).drop k).drop v = zs.drop (p + k + v) by rw [List.drop_drop, List.drop_drop, Nat.add_assoc])
      have hmv : (v : Int) ≤ most := by omega
      clear t hcn hn hsa hsl hcell hzl hm
      have d1 : ((k : Int) == 0) = false := by simp; omega
      have d2 : decide (most < 0) = false := by simp; omega
      have d3 : decide (most < (v : Int)) = false := by simp; omega
      have d4 : decide ((n : Int) - (p : Int) - (k : Int) < (v : Int)) = false := by simp; omega
      have w1 : IntKind.u64.wrap most = most := by rw [IntKind.wrap_u64]; omega
      have w2 : IntKind.i64.wrap ((n : Int) - (p : Int)) = (n : Int) - (p : Int) := IntWalk.i64_in _ (by omega)
      have w3 : IntKind.i64.wrap ((n : Int) - (p : Int) - (k : Int)) = (n : Int) - (p : Int) - (k : Int) := IntWalk.i64_in _ (by omega)
      have w4 : IntKind.u64.wrap ((n : Int) - (p : Int) - (k : Int)) = (n : Int) - (p : Int) - (k : Int) := by rw [IntKind.wrap_u64]; omega
      go_enter Tryz.func71, Tryz.ntmps71
      go_wp2_with fail
      refine HN.out.mono ?_
      rintro e wa ⟨rfl, hst⟩
      have ht := HT.out.1.still hst
      have HST := Lib.hid hst
      obtain ⟨c0, c1, c2, f1, f2⟩ := ht.cells
      clear ht hst
      go_wp2_with fail
      go_quiet (fail)
      clear w1 w2 w3 w4 d1 d2 d3 d4
      go_wp2_with fail
      have hst2 := Still.drewN HST.out nq
      have hch : Chg h (wa.drewN nq) ((wa.drewN nq).setCell ⟨h, 1, none⟩ (.int .i64 ((p : Int) + (k : Int) + (v : Int)))) := (Chg.refl h _).setCell ⟨h, 1, none⟩ (.inl rfl) _
      have hcg := ((Chg.refl h w).still hst2).trans hch
      have hr2 := (HT.out.2.1.still hst2).chg3 hch (HT.out.1.still hst2)
      have ht2 := (HT.out.1.still hst2).set1 ((p : Int) + (k : Int) + (v : Int)) (p + k + v) (by omega)
      clear hch hst2 c0 c1 c2 f1 f2
      generalize (wa.drewN nq).setCell _ _ = W at hcg hr2 ht2 ⊢
      obtain ⟨c0, c1, _, _, _⟩ := ht2.cells
      have HCG := Lib.hid hcg
      have HR2 := Lib.hid hr2
      have HT2 := Lib.hid ht2
      have HO := Lib.hid (Own.made W W (Below.refl _ _)).drew
      unfold noneBlk at HO
      have HRW := Lib.hid (show Rd (W.alloc (.cells #[] 5)).drew (some a) v ((zs.drop (p + k)).take v) from (hr2.window (p + k) v (by omega) a HSA.out).below (((Below.refl _ _).alloc (Nat.le_refl _) _).drew))
      have hsl := HSL.out
      have hba : Below W.heap.size W (W.alloc (.cells #[] 5)) := (Below.refl _ _).alloc (Nat.le_refl _) _
      have e0 := (hba.cell (lt_of_cell c0)).trans c0
      have e1 := (hba.cell (lt_of_cell c1)).trans c1
      clear hba
      push_cast at c1 e1 hsl
      have HBD := Lib.hid (show ([] : List Int).length + v ≤ 140737488355328 by simp only [List.length_nil]; omega)
      clear hcg hr2 ht2 HSL HST HN HT
      go_region_law ((refine step_append_rd rfl _ _ rfl W (.slice (some ⟨W.heap.size, 0, none⟩) 0 0) [] rfl HO.out a v (cap - (p + k)) ((zs.drop (p + k)).take v) rfl HRW.out HBD.out ?_; intro v' w' hO hg; have HO' := Lib.hid hO; clear hO hg))
      all_goals go_wp2
      all_goals go_ret
      all_goals
        obtain ⟨A', c', hv', hs', _⟩ := HO'.out.sl v (by rw [List.nil_append, List.length_take, List.length_drop]; have := HR2.out.1; omega)
        subst hv'
        rw [HTX.out, HRS.out]
        exact ⟨A', v, c', rfl, hs'.1, HCG.out.trans (Chg.below HO'.out.1), _, _, _, p + k + v, zs, ⟨HT2.out.of_block (HO'.out.1.block h HT2.out.lt), HR2.out.below HO'.out.1, by omega, hnc, hn47⟩, rfl⟩
    · rw [if_neg hvr] at hc; cases hc
end Go.Proofs.YtejphnbhcabchaaGreat.Fld
