/-
  The document's own disk: a file is put where there is none. Conditions: it lies in memory as it was made (Rf).
-/
import Derived.Test.YthdpdhjhpbkhaaaDiskRefP
namespace Go.Proofs.Ythdpdhjhpbkhaaa.Dk
open Go.RowKit Go.Proofs.Ythdpdhjhpbkhaaa.Fld

theorem wpList_append_nofile {w : World} {ops : Array Oper} {rest : List Oper} {o : Oper} {a : Act} {Q : Exit → Act → World → Prop} (hgd : o.guard = none) (s x : Operand)
    (ho : o.op = .call { callee := .builtin .append, args := #[s, x], argTypes := #[56, 56] })
    (base : Nat) (v : Value) (n1 : Nat) (xs : List Value) (hs : a.eval s = v) (hown : w.ownsRow base 75 3 v n1 xs) (hx : a.eval x = .slice none 0 0)
    (h : wpList Try.prog ops Q rest (a.put o.dst v) w) : wpList Try.prog ops Q (o :: rest) a w := by
  obtain ⟨i, hi, hz, hsz, hby⟩ := file_info
  exact wpList_append_own_none hgd s x _ ho base 75 i 3 Try.underlying56 hi v _ _ hs hown hx h
set_option maxRecDepth 100000 in
set_option maxHeartbeats 3200000 in
theorem put_nil (r : Nat) (room fl al : Int) (down : Bool) (e : Ent) (w : World) (h : Dsr w r room none 0 0 fl al down) (he : Flat [e]) :
    Calls Try.prog 47 #[.pointer (some ⟨r, 0, none⟩), .agg #[.string ⟨e.nm.toArray⟩, e.v, .int .i64 (e.s : Int)]] w fun en w' => en = .returned (.tuple #[]) ∧ Turned w r room fl al down [e] w' := by
  obtain ⟨EA, en, ecap, hev⟩ := he e (by simp)
  rw [hev]
  have HEV := Lib.hid hev
  have HFE := Lib.hid he
  have hrl := h.lt
  obtain ⟨c0, c1, c2, c3, c4⟩ := h.cells
  have p1 := fun o => cell_past c1 o
  have HD := Lib.hid h
  clear h hev
  go_enter Try.func47, Try.ntmps47
  go_wp2
  go_loopw [4] (fun i wr => i = .int .i64 0 ∧ Still (w.alloc (.cells #[.string ⟨e.nm.toArray⟩, .slice EA en ecap, .int .i64 (e.s : Int)] 75)) wr) (fun _ _ => 0)
  case atStart => exact ⟨rfl, Still.refl _⟩
  case round =>
    obtain ⟨rfl, hst⟩ := hrel
    have hb : Below w.heap.size w (w.alloc (.cells #[.string ⟨e.nm.toArray⟩, .slice EA en ecap, .int .i64 (e.s : Int)] 75)) := (Below.refl _ _).alloc (Nat.le_refl _) _
    have hDr := HD.out.of_block (w' := wr) (by rw [hst.1]; exact hb.block r hrl)
    have k1 := hDr.cells.2.1
    have HST := Lib.hid hst
    have HB := Lib.hid hb
    clear hst hDr hb c0 c1 c2 c3 c4 p1
    go_wp2_with fail
    go_quiet (fail)
    have hstq := Still.drewN HST.out nq
    generalize wr.drewN nq = wq at *
    have hDq := HD.out.of_block (w' := wq) (by rw [hstq.1]; exact HB.out.block r hrl)
    have hNq := (show wq.heap[w.heap.size]? = _ from by rw [hstq.1]).trans (heap_alloc_new w (.cells #[.string ⟨e.nm.toArray⟩, .slice EA en ecap, .int .i64 (e.s : Int)] 75))
    have hfq : Fr [] w wq := ⟨hstq.2.1.trans HB.out.os, hstq.2.2.1.trans HB.out.tape, hstq.2.2.2.trans HB.out.output, by rw [hstq.1]; exact HB.out.size, fun i hi _ => by rw [hstq.1]; exact HB.out.block i hi⟩
    have hlw : w.heap.size < wq.heap.size := (Array.getElem?_eq_some_iff.1 hNq).1
    have HDQ := Lib.hid hDq
    have HFQ := Lib.hid hfq
    have HO := Lib.hid (row_made wq)
    have kq := hDq.cells.2.1
    have p1 := fun o => cell_past kq o
    have b0 := fun o => cell_past (cell_of_row wq w.heap.size 0 _ _ (0, 0) hNq) o
    have b1 := fun o => cell_past (cell_of_row wq w.heap.size 1 _ _ (0, 0) hNq) o
    have b2 := fun o => cell_past (cell_of_row wq w.heap.size 2 _ _ (0, 0) hNq) o
    clear hstq hDq hNq hfq k1
    have hre := ent_row (wq.alloc (.cells #[] 75)) e HEV.out
    rw [size_up] at hre
    have HRE := Lib.hid hre
    have HO2 := Lib.hid (ent_next HO.out e HEV.out)
    clear hre
    go_wp2_with (first | (at_builtin; have _ := HROW2; refine wpList_append_nofile rfl _ _ rfl wq.heap.size _ 1 _ rfl HROW2.out rfl ?_; have HA3 := HROW2) | (at_builtin; have _ := HA1; refine wpList_append_files rfl _ _ rfl wq.heap.size (.slice (some ⟨wq.heap.size, 0, none⟩) 0 0) 0 [] rfl HO2.out ⟨wq.heap.size + 1, 0, none⟩ 1 1 [e] rfl rfl HRE.out HFE.out (by omega) (by simp; omega) ?_; intro v2 w2 hrow2 hg2 _; rw [List.nil_append, Nat.zero_add] at hrow2; obtain ⟨A2, c2', hv2, hbl2⟩ := row_form hrow2; subst hv2; have hs2 := hg2.size; simp at hs2; have hD2 := HDQ.out.of_block ((hg2.block r (by simp; omega) (by simp [Value.ownBlock]; omega)).trans ((Below.heap_alloc _ _ _ (by simp; omega)).trans (Below.heap_alloc _ _ _ (by omega)))); have y1 := hD2.cells.2.1; have z2 := hD2.free 1; have HD2 := Lib.hid hD2; have HROW2 := Lib.hid hrow2; have HB2 := Lib.hid hbl2; have HFR2 := Lib.hid (((HFQ.out.alloc _).alloc _).grown hg2 (fun i hi => by cases hi; exact .inr (show w.heap.size ≤ wq.heap.size by omega))); clear hrow2 hg2 hbl2 hD2) | (at_builtin; refine wpList_append_nofile rfl _ _ rfl wq.heap.size _ 0 _ rfl HO.out rfl ?_; have HA1 := HO))
    go_end0
    exact ⟨rfl, turned_end0 HFR2.out hrl HD2.out (row_zero HROW2.out) (fun i hi => ⟨by have := (HB2.out i hi).1; omega, (HB2.out i hi).2⟩) rfl⟩
end Go.Proofs.Ythdpdhjhpbkhaaa.Dk
