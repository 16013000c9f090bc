/-
  Several texts in one: Layer 12, a node that is alone: Get, Committed, Out. Conditions: the node lies in memory. Layer 12: what New asks of a snapshot, and its copies. Conditions: as each theorem states.
-/
import Derived.Test.YtjadfpcipicckaaGreatJRfJ
import Derived.Laws.StructEq
namespace Go.Proofs.YtjadfpcipicckaaGreat.Rf
open Go.RowKit Go.Shelf Go.Proofs.YtjadfpcipicckaaGreat.Fld
open Go.Proofs.YtjadfpcipicckaaGreat.Qu (RdI)
set_option linter.unusedVariables false

set_option maxHeartbeats 800000 in
theorem committed_any {lo : Nat} {w : World} {b : PB} {s : AS} (h : Al lo w b s) : Calls Tryz.prog 14 #[.pointer (some ⟨b.nb, 0, none⟩)] w fun e w' => e = .returned (.int .i64 s.g.com) ∧ w = w' := by
  have c3 := h.c3
  have HG := Lib.hid (h.com w (Below.refl _ _))
  clear h
  go_enter Tryz.func14, Tryz.ntmps14
  go_wp2_with fail
  refine HG.out.mono ?_
  rintro e w1 ⟨rfl, rfl⟩
  go_wp2
  go_ret
  exact ⟨rfl, rfl⟩
/-- what is new -/
def frs (b : PB) (s : AS) : List Value := [.bool false, .int .i64 0, .int .i64 0, .bool false, .int .i64 0, .int .i64 0, .slice none 0 0, .slice none 0 0, .slice none 0 0, .int .i64 s.frm, .slice none 0 0, b.rv]
def fr0 : List Value := [.bool false, .int .i64 0, .int .i64 0, .bool false, .int .i64 0, .int .i64 0, .slice none 0 0, .slice none 0 0, .slice none 0 0, .int .i64 0, .slice none 0 0, .slice none 0 0]
theorem frs_range {lo : Nat} {w : World} {b : PB} {s : AS} (h : Al lo w b s) : w.rangeAt b.nb 12 (frs b s) := by
  intro j v hv
  refine Qu.Blk.cell h.blk (12 + j) v ?_
  unfold frs at hv
  rcases j with _ | _ | _ | _ | _ | _ | _ | _ | _ | _ | _ | _ | j
  all_goals first | exact hv | (simp at hv)
theorem Al.setRv0 {lo : Nat} {w : World} {b : PB} {s : AS} (h : Al lo w b s) : Aft lo w (w.setCell ⟨b.nb, 23, none⟩ (.slice none 0 0)) b { b with rv := .slice none 0 0 } { s with rd := [] } :=
  h.set 23 _ (ndR_rv b s (.slice none 0 0) []) (by omega) rfl rfl (Rg.row_nil _ _ _ _) (fun i hi => by simp [Value.ownBlock] at hi) (fun _ h => h)
/-- all that is new is forgotten -/
theorem Al.outs {lo : Nat} {w : World} {b : PB} {s : AS} (h : Al lo w b s) : Aft lo w (w.setCells b.nb 12 fr0) b { b with rv := .slice none 0 0 } { s with frm := 0, rd := [] } := by
  have h1 := h.keep 12 (.bool false) rfl (by omega)
  have h2 := h1.im.keep 13 (.int .i64 0) rfl (by omega)
  have h3 := h2.im.keep 14 (.int .i64 0) rfl (by omega)
  have h4 := h3.im.keep 15 (.bool false) rfl (by omega)
  have h5 := h4.im.keep 16 (.int .i64 0) rfl (by omega)
  have h6 := h5.im.keep 17 (.int .i64 0) rfl (by omega)
  have h7 := h6.im.keep 18 (.slice none 0 0) rfl (by omega)
  have h8 := h7.im.keep 19 (.slice none 0 0) rfl (by omega)
  have h9 := h8.im.keep 20 (.slice none 0 0) rfl (by omega)
  have ha := h9.im.setFrm 0
  have hb := ha.im.keep 22 (.slice none 0 0) rfl (by omega)
  have hc := hb.im.setRv0
  exact (((((((((((h1.then h2).then h3).then h4).then h5).then h6).then h7).then h8).then h9).then ha).then hb).then hc)
theorem ndR_hT (b : PB) (s : AS) (t : Int) : (ndR b s).setIfInBounds 10 (.int .i64 t) = ndR b { s with hT := t } := rfl
theorem ndR_hV (b : PB) (s : AS) (t : Int) : (ndR b s).setIfInBounds 11 (.int .i64 t) = ndR b { s with hV := t } := rfl
theorem Al.told {lo : Nat} {w : World} {b : PB} {s : AS} (h : Al lo w b s) (t v : Int) : Aft lo w ((w.setCell ⟨b.nb, 10, none⟩ (.int .i64 t)).setCell ⟨b.nb, 11, none⟩ (.int .i64 v)) b b { s with hT := t, hV := v } := by
  have h1 := h.set 10 _ (ndR_hT b s t) (by omega) rfl rfl h.rv (fun _ h => h) (fun _ h => h)
  have h2 := h1.im.set 11 _ (ndR_hV b { s with hT := t } v) (by omega) rfl rfl h1.im.rv (fun _ h => h) (fun _ h => h)
  exact h1.then h2
theorem fr_setCells {S : List Nat} {a : World} (b : Nat) : ∀ (vs : List Value) (o : Nat) {w : World}, Dk.Fr S a w → (b ∈ S ∨ a.heap.size ≤ b) → Dk.Fr S a (w.setCells b o vs)
  | [], _, _, h, _ => h
  | v :: vs, o, _, h, hb => fr_setCells b vs (o + 1) (h.setCell ⟨b, o, none⟩ hb v) hb
/-- what is not the node's, and new, has changed -/
theorem Al.apart {lo R : Nat} {w w1 w' : World} {b : PB} {s : AS} (h : Al lo w1 b s) (hf : Dk.Fr [R] w1 w') (hR : w.heap.size ≤ R) (hfo : ∀ i ∈ b.foot, i < w.heap.size) (hro : ∀ i ∈ b.ro, i < w.heap.size) {cs : Array Value} {ty : TypeId} (hk : Rg.Blk w1 R cs ty) (ht : ty ≠ 5) : Al lo w' b s := by
  refine h.out hf (fun i hi hm => ?_) (fun i hi hm => ?_) (fun i hi cs' hb => ?_)
  · have := hfo i hi; simp at hm; omega
  · have := hro i hi; simp at hm; omega
  · simp at hi; subst hi
    exact Rg.Blk.ne hk hb ht rfl
theorem there12 {lo : Nat} {w : World} {b : PB} {s : AS} (h : Al lo w b s) : w.there b.nb 12 12 := by
  intro j hj
  refine ⟨?_, h.free _⟩
  have hs : 12 + j < (ndR b s).size := by show 12 + j < 27; omega
  rw [Qu.Blk.cell h.blk (12 + j) _ (Array.getElem?_eq_getElem hs)]
  rfl
theorem thereB {w : World} {B : Nat} {cs : Array Value} {ty : TypeId} (h : Rg.Blk w B cs ty) (n : Nat) (hn : cs.size = n) : w.there B 0 n := by
  intro j hj
  rw [Nat.zero_add]
  refine ⟨?_, h.free _⟩
  rw [h.cell j _ (Array.getElem?_eq_getElem (by omega))]
  rfl
theorem rangeB {w : World} {B : Nat} {cs : List Value} {ty : TypeId} (h : Rg.Blk w B cs.toArray ty) : w.rangeAt B 0 cs := blk_range h
theorem foot_nil (b : PB) : ∀ i ∈ ({ b with rv := .slice none 0 0 } : PB).foot, i ∈ b.foot := by
  intro i hi
  rcases mem_foot.1 hi with h1 | h1 | h1 | h1 | h1 | h1 | h1
  · exact mem_foot.2 (by simp [show i = b.nb from h1])
  · exact mem_foot.2 (by simp [show i = b.p.g from h1])
  · exact mem_foot.2 (by simp [show i = b.p.b from h1])
  · exact mem_foot.2 (by simp [show i = b.g from h1])
  · exact mem_foot.2 (by simp [show b.v.ownBlock = some i from h1])
  · simp [Value.ownBlock] at h1
  · exact mem_foot.2 (by simp [show b.pm = some i from h1])
theorem results_cell_mid {P : Program} {fn : Func} {p : Tmp} {ty : TypeId} (h : fn.results = #[.cell p ty]) (tmps : Array Value) (w : World) (g : Nat) (cs : List Value) (d : TypeDesc)
    (hp : tmps.getD p undef = .pointer (some ⟨g, 0, none⟩)) (hg : w.rangeAt g 0 cs) (hu : P.underlying ty = some d) (hd : d.isRow = true) (hi : (P.info? ty).map (·.size) = some cs.length) :
    (results fn tmps).run P w = .ok (.agg cs.toArray) w := by
  have hp' : tmps[p]?.getD undef = .pointer (some ⟨g, 0, none⟩) := by simpa using hp
  simp [results, h, hp', asAddr, run_loadVar_mid w g 0 ty cs d hg hu hd hi]
theorem fr0_one : (#[.bool false, .int .i64 0, .int .i64 0, .bool false, .int .i64 0, .int .i64 0, .slice none 0 0, .slice none 0 0, .slice none 0 0, .int .i64 0, .slice none 0 0, .slice none 0 0] : Array Value).all (·.oneCell') = true := by simp [Value.oneCell']
theorem ready_size : (Tryz.prog.info? 48).map (·.size) = some 12 := by kernel_rfl
theorem neq_hard (a b c d : Int) (w : World) : (binOp .neq 23 (.agg #[.int .i64 a, .int .i64 b]) (.agg #[.int .i64 c, .int .i64 d])).run Tryz.prog w = .ok (.bool (!(a == c && b == d))) w := by
  have u3 := Tryz.underlying3
  have a3 := Tryz.isAgg3
  have z3 := Tryz.sizeOf3
  have hS : Tryz.prog.underlying 23 = some (.struct (Tryz.prog.fieldsOf 23)) := by kernel_rfl
  have hp : Tryz.prog.stoodInHeld 23 = false := by kernel_rfl
  rw [run_neq_struct, show (10000 : Nat) = 9999 + 1 from rfl, run_equalIn_agg w 9999 23 _ _ hS hp]
  simp only [Program.fieldsOf, Tryz.underlying23]
  go_simp
  by_cases h1 : a = c <;> by_cases h2 : b = d <;> simp [h1, h2]
theorem guard_hard (op : BinOp) (x y : Operand) (xs ys : Array Value) (w : World) : (eqGuard op 23 x y (.agg xs) (.agg ys)).run Tryz.prog w = .ok () w := run_eqGuard_agg w op _ x y xs ys (by kernel_rfl)
def outV (s : AS) (b : PB) (hn : Bool) (t v : Int) : Value := .agg #[.bool hn, .int .i64 t, .int .i64 v, .bool false, .int .i64 0, .int .i64 0, .slice none 0 0, .slice none 0 0, .slice none 0 0, .int .i64 s.frm, .slice none 0 0, b.rv]
def OutIs (lo : Nat) (w : World) (b : PB) (s : AS) (e : Ending) (w' : World) : Prop := (∃ hn t v, e = .returned (outV s b hn t v)) ∧ Aft lo w w' b { b with rv := .slice none 0 0 } { s with hT := s.e.term, hV := s.e.vote, frm := 0, rd := [] } ∧ Dk.Fr [b.nb] w w'
theorem outIs_mk {lo : Nat} {w w' : World} {b : PB} {s : AS} {RA : Option Addr} {n rc : Nat} {tt tv : Int} (hn : Bool) (t v : Int) (hrv : b.rv = .slice RA n rc) (h1 : s.e.term = tt) (h2 : s.e.vote = tv) (hi : Al lo w' { b with rv := .slice none 0 0 } { s with hT := tt, hV := tv, frm := 0, rd := [] }) (hf : Dk.Fr [b.nb] w w') :
    OutIs lo w b s (.returned (.agg #[.bool hn, .int .i64 t, .int .i64 v, .bool false, .int .i64 0, .int .i64 0, .slice none 0 0, .slice none 0 0, .slice none 0 0, .int .i64 s.frm, .slice none 0 0, .slice RA n rc])) w' := by
  subst h1 h2
  exact ⟨⟨hn, t, v, by unfold outV; rw [hrv]⟩, ⟨hi, hf.mono (fun i hi => mem_foot.2 (.inl (by simpa using hi))), fun i hi => .inl (foot_nil b i hi), fun i hi => .inl hi, rfl⟩, hf⟩
set_option maxRecDepth 100000 in
set_option maxHeartbeats 800000 in
theorem out_any {lo : Nat} {w : World} {b : PB} {s : AS} (h : Al lo w b s) : Calls Tryz.prog 11 #[.pointer (some ⟨b.nb, 0, none⟩)] w (OutIs lo w b s) := by
  have hR := Rg.alloc_below' w (.cells #[.bool false, .int .i64 0, .int .i64 0, .bool false, .int .i64 0, .int .i64 0, .slice none 0 0, .slice none 0 0, .slice none 0 0, .int .i64 0, .slice none 0 0, .slice none 0 0] 48)
  have h1 := h.below hR
  have l0 := frs_range h1
  obtain ⟨RA, rc, hrv, _⟩ := Rg.row_slice h.rv
  unfold frs at l0
  rw [hrv] at l0
  have HS := Lib.hid h
  have HRV := Lib.hid hrv
  have HS1 := Lib.hid h1
  have HBR := Lib.hid hR
  clear hrv hR h1
  generalize hnn : s.rd.length = n at *
  have HNN := Lib.hid hnn
  clear hnn
  have hun := Tryz.underlying48
  have hin := ready_size
  have hR1 := Rg.alloc_below' (w.alloc (.cells #[.bool false, .int .i64 0, .int .i64 0, .bool false, .int .i64 0, .int .i64 0, .slice none 0 0, .slice none 0 0, .slice none 0 0, .int .i64 0, .slice none 0 0, .slice none 0 0] 48)) (.cells #[.bool false, .int .i64 0, .int .i64 0, .bool false, .int .i64 0, .int .i64 0, .slice none 0 0, .slice none 0 0, .slice none 0 0, .int .i64 s.frm, .slice none 0 0, .slice RA n rc] 48)
  have e0 := (HS1.out.below hR1).c0
  have HS2 := Lib.hid (HS1.out.below hR1)
  have HB2 := Lib.hid (HBR.out.trans (hR1.mono HBR.out.size))
  have k0 := (Rg.Blk.new w #[.bool false, .int .i64 0, .int .i64 0, .bool false, .int .i64 0, .int .i64 0, .slice none 0 0, .slice none 0 0, .slice none 0 0, .int .i64 0, .slice none 0 0, .slice none 0 0] 48).past (.cells #[.bool false, .int .i64 0, .int .i64 0, .bool false, .int .i64 0, .int .i64 0, .slice none 0 0, .slice none 0 0, .slice none 0 0, .int .i64 s.frm, .slice none 0 0, .slice RA n rc] 48)
  have k1 := Rg.Blk.new (w.alloc (.cells #[.bool false, .int .i64 0, .int .i64 0, .bool false, .int .i64 0, .int .i64 0, .slice none 0 0, .slice none 0 0, .slice none 0 0, .int .i64 0, .slice none 0 0, .slice none 0 0] 48)) #[.bool false, .int .i64 0, .int .i64 0, .bool false, .int .i64 0, .int .i64 0, .slice none 0 0, .slice none 0 0, .slice none 0 0, .int .i64 s.frm, .slice none 0 0, .slice RA n rc] 48
  rw [World.size_alloc] at k1
  have HK0 := Lib.hid k0
  have HK1 := Lib.hid k1
  have HH := Lib.hid (El.hard_any b.p s.e _ HS2.out.el)
  clear h hR1 k0 k1
  go_enter Tryz.func11, Tryz.ntmps11
  go_wp2_with (refine wpList_load_mid rfl 48 _ rfl b.nb 12 rfl _ _ l0 hun rfl hin ?_)
  generalize (w.alloc (.cells #[.bool false, .int .i64 0, .int .i64 0, .bool false, .int .i64 0, .int .i64 0, .slice none 0 0, .slice none 0 0, .slice none 0 0, .int .i64 0, .slice none 0 0, .slice none 0 0] 48)).alloc (.cells #[.bool false, .int .i64 0, .int .i64 0, .bool false, .int .i64 0, .int .i64 0, .slice none 0 0, .slice none 0 0, .slice none 0 0, .int .i64 s.frm, .slice none 0 0, .slice RA n rc] 48) = w2 at *
  clear l0
  refine HH.out.mono ?_
  rintro e w3 ⟨rfl, hb3⟩
  have hb4 := hb3.alloc hb3.size (.cells #[.int .i64 s.e.term, .int .i64 s.e.vote] 23)
  have HB4 := Lib.hid (HB2.out.trans (hb4.mono HB2.out.size))
  have HS4 := Lib.hid (HS2.out.below hb4)
  have HK04 := Lib.hid (HK0.out.below hb4)
  have HK14 := Lib.hid (HK1.out.below hb4)
  have HKH := Lib.hid (Rg.Blk.new w3 #[.int .i64 s.e.term, .int .i64 s.e.vote] 23)
  have HHX := Lib.hid (show w.heap.size + 2 ≤ w3.heap.size by have := HK1.out.lt; have := hb3.size; omega)
  clear hb3 hb4 e0
  go_wp2_with fail
  generalize w3.alloc (.cells #[.int .i64 s.e.term, .int .i64 s.e.vote] 23) = w4 at *
  generalize w3.heap.size = hb at *
  have c10 := HS4.out.c10
  have c11 := HS4.out.c11
  have g0 := HKH.out.cell 0 (.int .i64 s.e.term) rfl
  have g1 := HKH.out.cell 1 (.int .i64 s.e.vote) rfl
  generalize htt : s.e.term = tt at *
  generalize htv : s.e.vote = tv at *
  have HTT := Lib.hid htt
  have HTV := Lib.hid htv
  clear htt htv
  generalize s.hT = ot at *
  generalize s.hV = ov at *
  have qn := fun w => neq_hard tt tv ot ov w
  have qg := fun op x y w => guard_hard op x y #[.int .i64 tt, .int .i64 tv] #[.int .i64 ot, .int .i64 ov] w
  generalize hdif : (!(tt == ot && tv == ov)) = df at *
  go_quiet (fail)
  have HB5 := Lib.hid (HB4.out.trans ((Qu.below_dr w4 nq).mono HB4.out.size))
  have HS5 := Lib.hid (HS4.out.below (Qu.below_dr w4 nq))
  have HK05 := Lib.hid (HK04.out.below (Qu.below_dr w4 nq))
  have HK15 := Lib.hid (HK14.out.below (Qu.below_dr w4 nq))
  have HKH5 := Lib.hid (HKH.out.below (Qu.below_dr w4 nq))
  clear c10 c11 g0 g1
  generalize w4.drewN nq = w5 at *
  have HN1 := Lib.hid (show hb ≠ w.heap.size + 1 by have := HHX.out; omega)
  cases df with
  | true =>
    have g0 := HKH5.out.cell 0 (.int .i64 tt) rfl
    have g1 := HKH5.out.cell 1 (.int .i64 tv) rfl
    have r0 := HK15.out.cell 0 (.bool false) rfl
    have r1 := HK15.out.cell 1 (.int .i64 0) rfl
    have r2 := HK15.out.cell 2 (.int .i64 0) rfl
    have z0 := HK15.out.free 0
    have z1 := HK15.out.free 1
    have z2 := HK15.out.free 2
    have hne := HN1.out
    go_upto_region 4 with fail
    go_region
    have HFR := Lib.hid (show Dk.Fr [w.heap.size + 1] w5 (((w5.setCell ⟨w.heap.size + 1, 0, none⟩ (.bool true)).setCell ⟨w.heap.size + 1, 1, none⟩ (.int .i64 tt)).setCell ⟨w.heap.size + 1, 2, none⟩ (.int .i64 tv)) from (((Dk.Fr.refl _ _).setCell _ (.inl (by simp)) _).setCell _ (.inl (by simp)) _).setCell _ (.inl (by simp)) _)
    have HK6 := Lib.hid (Rg.Blk.set (Rg.Blk.set (Rg.Blk.set HK15.out 0 (.bool true) (by show 0 < 12; omega)) 1 (.int .i64 tt) (by show 1 < 12; omega)) 2 (.int .i64 tv) (by show 2 < 12; omega))
    have HK06 := Lib.hid (show Rg.Blk (((w5.setCell ⟨w.heap.size + 1, 0, none⟩ (.bool true)).setCell ⟨w.heap.size + 1, 1, none⟩ (.int .i64 tt)).setCell ⟨w.heap.size + 1, 2, none⟩ (.int .i64 tv)) w.heap.size _ _ from (HFR.out.block w.heap.size HK05.out.lt (by simp)).trans HK05.out)
    have HS6 := Lib.hid (HS5.out.apart (w := w) HFR.out (by omega) HS.out.foot_lt HS.out.rl HK15.out (by decide))
    have HF6 := Lib.hid (show Dk.Fr [b.nb] w (((w5.setCell ⟨w.heap.size + 1, 0, none⟩ (.bool true)).setCell ⟨w.heap.size + 1, 1, none⟩ (.int .i64 tt)).setCell ⟨w.heap.size + 1, 2, none⟩ (.int .i64 tv)) from (Dk.Fr.below HB5.out).trans HFR.out (fun i hi => .inr (by simp at hi; omega)))
    clear r0 r1 r2 z0 z1 z2 g0 g1
    generalize ((w5.setCell ⟨w.heap.size + 1, 0, none⟩ (.bool true)).setCell ⟨w.heap.size + 1, 1, none⟩ (.int .i64 tt)).setCell ⟨w.heap.size + 1, 2, none⟩ (.int .i64 tv) = w6d at *
    have HK6 := Lib.hid (HK6.out.below (Below.refl _ w6d).drew)
    have HK06 := Lib.hid (HK06.out.below (Below.refl _ w6d).drew)
    have HS6 := Lib.hid (HS6.out.below (Below.refl _ w6d).drew)
    have HF6 := Lib.hid (HF6.out.same (Dk.Fr.below (Below.refl _ w6d).drew))
    generalize w6d.drew = w6 at *
    have q3 := HK6.out.cell 3 (.bool false) rfl
    have e0 := HS6.out.c0
    have HH6 := Lib.hid (El.hard_any b.p s.e _ HS6.out.el)
    rw [HTT.out, HTV.out] at HH6
    go_wp2_with fail
    refine HH6.out.mono ?_
    rintro e w7 ⟨rfl, hb7⟩
    have HS7 := Lib.hid (HS6.out.below hb7)
    have HF7 := Lib.hid (HF6.out.same (Dk.Fr.below hb7))
    have HK7 := Lib.hid (HK6.out.below hb7)
    have HK07 := Lib.hid (HK06.out.below hb7)
    have HA8 := Lib.hid HS7.out.outs
    have HT7 := Lib.hid (there12 HS7.out)
    have hone := fr0_one
    have HZ := Lib.hid (show w7.setCells b.nb 12 fr0 = w7.setCells b.nb 12 [.bool false, .int .i64 0, .int .i64 0, .bool false, .int .i64 0, .int .i64 0, .slice none 0 0, .slice none 0 0, .slice none 0 0, .int .i64 0, .slice none 0 0, .slice none 0 0] from rfl)
    clear hb7 q3 e0
    have HF8 := Lib.hid (fr_setCells b.nb fr0 12 HF7.out (.inl (by simp)))
    have HK8 := Lib.hid (show Rg.Blk (w7.setCells b.nb 12 fr0) (w.heap.size + 1) _ _ from (HA8.out.fr.block (w.heap.size + 1) HK7.out.lt (fun hm => by have := HS.out.foot_lt _ hm; omega)).trans HK7.out)
    have HK08 := Lib.hid (show Rg.Blk (w7.setCells b.nb 12 fr0) w.heap.size _ _ from (HA8.out.fr.block w.heap.size HK07.out.lt (fun hm => by have := HS.out.foot_lt _ hm; omega)).trans HK07.out)
    go_upto_region 8 with (refine wpList_store_mid rfl 48 _ _ rfl b.nb 12 #[.bool false, .int .i64 0, .int .i64 0, .bool false, .int .i64 0, .int .i64 0, .slice none 0 0, .slice none 0 0, .slice none 0 0, .int .i64 0, .slice none 0 0, .slice none 0 0] rfl rfl HT7.out hin hone ?_; change wpList _ _ _ _ _ (w7.setCells b.nb 12 fr0); generalize w7.setCells b.nb 12 fr0 = w8 at *; have d10 : w8.cell? ⟨b.nb, 10, none⟩ = some (.int .i64 s.hT) := HA8.out.im.c10; have d11 : w8.cell? ⟨b.nb, 11, none⟩ = some (.int .i64 s.hV) := HA8.out.im.c11; have z10 : w8.frozen? ⟨b.nb, 10, none⟩ = false := HA8.out.im.free 10; have z11 : w8.frozen? ⟨b.nb, 11, none⟩ = false := HA8.out.im.free 11)
    have hf9 : Dk.Fr [b.nb] w8 ((w8.setCell ⟨b.nb, 10, none⟩ (.int .i64 tt)).setCell ⟨b.nb, 11, none⟩ (.int .i64 tv)) := ((Dk.Fr.refl _ _).setCell _ (.inl (by simp)) _).setCell _ (.inl (by simp)) _
    have HA9 := Lib.hid (HA8.out.then (HA8.out.im.told tt tv))
    have HF9 := Lib.hid (HF8.out.same hf9)
    have hbn := HS.out.blk.lt
    have HK9 := Lib.hid (show Rg.Blk ((w8.setCell ⟨b.nb, 10, none⟩ (.int .i64 tt)).setCell ⟨b.nb, 11, none⟩ (.int .i64 tv)) (w.heap.size + 1) _ _ from (hf9.block (w.heap.size + 1) HK8.out.lt (fun hm => by simp at hm; omega)).trans HK8.out)
    have HK09 := Lib.hid (show Rg.Blk ((w8.setCell ⟨b.nb, 10, none⟩ (.int .i64 tt)).setCell ⟨b.nb, 11, none⟩ (.int .i64 tv)) w.heap.size _ _ from (hf9.block w.heap.size HK08.out.lt (fun hm => by simp at hm; omega)).trans HK08.out)
    clear hf9 d10 d11 z10 z11 hbn
    have HA9 := Lib.hid (show Aft lo w7 ((w8.setCell ⟨b.nb, 10, none⟩ (.int .i64 tt)).setCell ⟨b.nb, 11, none⟩ (.int .i64 tv)) b { b with rv := .slice none 0 0 } { s with hT := tt, hV := tv, frm := 0, rd := [] } from HA9.out)
    have hs9 : w7.heap.size ≤ w8.heap.size := HA8.out.fr.size
    have HLT := Lib.hid (show ∀ i ∈ ({ b with rv := .slice none 0 0 } : PB).foot, i < w.heap.size from fun i hi => HS.out.foot_lt i (foot_nil b i hi))
    have HLR := Lib.hid (show ∀ i ∈ ({ b with rv := .slice none 0 0 } : PB).ro, i < w.heap.size from HS.out.rl)
    clear hs9
    generalize (w8.setCell ⟨b.nb, 10, none⟩ (.int .i64 tt)).setCell ⟨b.nb, 11, none⟩ (.int .i64 tv) = w9 at *
    have l1 := rangeB (cs := [.bool true, .int .i64 tt, .int .i64 tv, .bool false, .int .i64 0, .int .i64 0, .slice none 0 0, .slice none 0 0, .slice none 0 0, .int .i64 s.frm, .slice none 0 0, .slice RA n rc]) HK9.out
    have HTR := Lib.hid (thereB HK09.out 12 rfl)
    have hone1 : ([.bool true, .int .i64 tt, .int .i64 tv, .bool false, .int .i64 0, .int .i64 0, .slice none 0 0, .slice none 0 0, .slice none 0 0, .int .i64 s.frm, .slice none 0 0, .slice RA n rc].toArray : Array Value).all (·.oneCell') = true := by simp [Value.oneCell']
    have HX := Lib.hid (HA9.out.im.apart (w := w) (R := w.heap.size) (show Dk.Fr [w.heap.size] w9 (w9.setCells w.heap.size 0 [.bool true, .int .i64 tt, .int .i64 tv, .bool false, .int .i64 0, .int .i64 0, .slice none 0 0, .slice none 0 0, .slice none 0 0, .int .i64 s.frm, .slice none 0 0, .slice RA n rc]) from fr_setCells _ _ _ (Dk.Fr.refl _ _) (.inl (by simp))) (Nat.le_refl _) HLT.out HLR.out HK09.out (by decide))
    have HFX := Lib.hid (show Dk.Fr [b.nb] w (w9.setCells w.heap.size 0 [.bool true, .int .i64 tt, .int .i64 tv, .bool false, .int .i64 0, .int .i64 0, .slice none 0 0, .slice none 0 0, .slice none 0 0, .int .i64 s.frm, .slice none 0 0, .slice RA n rc]) from fr_setCells _ _ _ HF9.out (.inr (Nat.le_refl _)))
    have HRX := Lib.hid (show (w9.setCells w.heap.size 0 [.bool true, .int .i64 tt, .int .i64 tv, .bool false, .int .i64 0, .int .i64 0, .slice none 0 0, .slice none 0 0, .slice none 0 0, .int .i64 s.frm, .slice none 0 0, .slice RA n rc]).rangeAt w.heap.size 0 [.bool true, .int .i64 tt, .int .i64 tv, .bool false, .int .i64 0, .int .i64 0, .slice none 0 0, .slice none 0 0, .slice none 0 0, .int .i64 s.frm, .slice none 0 0, .slice RA n rc] from World.rangeAt_setCells_same _ _ _ _ (by exact HTR.out))
    go_wp2_with (first | refine wpList_load_mid rfl 48 _ rfl (w.heap.size + 1) 0 rfl _ _ l1 hun rfl hin ?_ | (refine wpList_store_mid rfl 48 _ _ rfl w.heap.size 0 [.bool true, .int .i64 tt, .int .i64 tv, .bool false, .int .i64 0, .int .i64 0, .slice none 0 0, .slice none 0 0, .slice none 0 0, .int .i64 s.frm, .slice none 0 0, .slice RA n rc].toArray rfl rfl HTR.out hin hone1 ?_; change wpList _ _ _ _ _ (w9.setCells w.heap.size 0 [.bool true, .int .i64 tt, .int .i64 tv, .bool false, .int .i64 0, .int .i64 0, .slice none 0 0, .slice none 0 0, .slice none 0 0, .int .i64 s.frm, .slice none 0 0, .slice RA n rc]); generalize w9.setCells w.heap.size 0 [.bool true, .int .i64 tt, .int .i64 tv, .bool false, .int .i64 0, .int .i64 0, .slice none 0 0, .slice none 0 0, .slice none 0 0, .int .i64 s.frm, .slice none 0 0, .slice RA n rc] = wx at *))
    refine bodyPost_ret (results_cell_mid rfl _ _ w.heap.size _ _ rfl HRX.out hun rfl hin) rfl ?_
    exact outIs_mk true tt tv HRV.out HTT.out HTV.out HX.out HFX.out
  | false =>
    have HK6 := Lib.hid HK15.out
    have HK06 := Lib.hid HK05.out
    have HS6 := Lib.hid HS5.out
    have HF6 := Lib.hid (show Dk.Fr [b.nb] w w5 from Dk.Fr.below HB5.out)
    obtain ⟨w6, hw6⟩ : ∃ w6, w6 = w5 := ⟨_, rfl⟩
    rw [← hw6] at HK6 HK06 HS6 HF6 ⊢
    clear hw6
    have q3 := HK6.out.cell 3 (.bool false) rfl
    have e0 := HS6.out.c0
    have HH6 := Lib.hid (El.hard_any b.p s.e _ HS6.out.el)
    rw [HTT.out, HTV.out] at HH6
    go_wp2_with fail
    refine HH6.out.mono ?_
    rintro e w7 ⟨rfl, hb7⟩
    have HS7 := Lib.hid (HS6.out.below hb7)
    have HF7 := Lib.hid (HF6.out.same (Dk.Fr.below hb7))
    have HK7 := Lib.hid (HK6.out.below hb7)
    have HK07 := Lib.hid (HK06.out.below hb7)
    have HA8 := Lib.hid HS7.out.outs
    have HT7 := Lib.hid (there12 HS7.out)
    have hone := fr0_one
    have HZ := Lib.hid (show w7.setCells b.nb 12 fr0 = w7.setCells b.nb 12 [.bool false, .int .i64 0, .int .i64 0, .bool false, .int .i64 0, .int .i64 0, .slice none 0 0, .slice none 0 0, .slice none 0 0, .int .i64 0, .slice none 0 0, .slice none 0 0] from rfl)
    clear hb7 q3 e0
    have HF8 := Lib.hid (fr_setCells b.nb fr0 12 HF7.out (.inl (by simp)))
    have HK8 := Lib.hid (show Rg.Blk (w7.setCells b.nb 12 fr0) (w.heap.size + 1) _ _ from (HA8.out.fr.block (w.heap.size + 1) HK7.out.lt (fun hm => by have := HS.out.foot_lt _ hm; omega)).trans HK7.out)
    have HK08 := Lib.hid (show Rg.Blk (w7.setCells b.nb 12 fr0) w.heap.size _ _ from (HA8.out.fr.block w.heap.size HK07.out.lt (fun hm => by have := HS.out.foot_lt _ hm; omega)).trans HK07.out)
    go_upto_region 8 with (refine wpList_store_mid rfl 48 _ _ rfl b.nb 12 #[.bool false, .int .i64 0, .int .i64 0, .bool false, .int .i64 0, .int .i64 0, .slice none 0 0, .slice none 0 0, .slice none 0 0, .int .i64 0, .slice none 0 0, .slice none 0 0] rfl rfl HT7.out hin hone ?_; change wpList _ _ _ _ _ (w7.setCells b.nb 12 fr0); generalize w7.setCells b.nb 12 fr0 = w8 at *; have d10 : w8.cell? ⟨b.nb, 10, none⟩ = some (.int .i64 s.hT) := HA8.out.im.c10; have d11 : w8.cell? ⟨b.nb, 11, none⟩ = some (.int .i64 s.hV) := HA8.out.im.c11; have z10 : w8.frozen? ⟨b.nb, 10, none⟩ = false := HA8.out.im.free 10; have z11 : w8.frozen? ⟨b.nb, 11, none⟩ = false := HA8.out.im.free 11)
    have hf9 : Dk.Fr [b.nb] w8 ((w8.setCell ⟨b.nb, 10, none⟩ (.int .i64 tt)).setCell ⟨b.nb, 11, none⟩ (.int .i64 tv)) := ((Dk.Fr.refl _ _).setCell _ (.inl (by simp)) _).setCell _ (.inl (by simp)) _
    have HA9 := Lib.hid (HA8.out.then (HA8.out.im.told tt tv))
    have HF9 := Lib.hid (HF8.out.same hf9)
    have hbn := HS.out.blk.lt
    have HK9 := Lib.hid (show Rg.Blk ((w8.setCell ⟨b.nb, 10, none⟩ (.int .i64 tt)).setCell ⟨b.nb, 11, none⟩ (.int .i64 tv)) (w.heap.size + 1) _ _ from (hf9.block (w.heap.size + 1) HK8.out.lt (fun hm => by simp at hm; omega)).trans HK8.out)
    have HK09 := Lib.hid (show Rg.Blk ((w8.setCell ⟨b.nb, 10, none⟩ (.int .i64 tt)).setCell ⟨b.nb, 11, none⟩ (.int .i64 tv)) w.heap.size _ _ from (hf9.block w.heap.size HK08.out.lt (fun hm => by simp at hm; omega)).trans HK08.out)
    clear hf9 d10 d11 z10 z11 hbn
    have HA9 := Lib.hid (show Aft lo w7 ((w8.setCell ⟨b.nb, 10, none⟩ (.int .i64 tt)).setCell ⟨b.nb, 11, none⟩ (.int .i64 tv)) b { b with rv := .slice none 0 0 } { s with hT := tt, hV := tv, frm := 0, rd := [] } from HA9.out)
    have hs9 : w7.heap.size ≤ w8.heap.size := HA8.out.fr.size
    have HLT := Lib.hid (show ∀ i ∈ ({ b with rv := .slice none 0 0 } : PB).foot, i < w.heap.size from fun i hi => HS.out.foot_lt i (foot_nil b i hi))
    have HLR := Lib.hid (show ∀ i ∈ ({ b with rv := .slice none 0 0 } : PB).ro, i < w.heap.size from HS.out.rl)
    clear hs9
    generalize (w8.setCell ⟨b.nb, 10, none⟩ (.int .i64 tt)).setCell ⟨b.nb, 11, none⟩ (.int .i64 tv) = w9 at *
    have l1 := rangeB (cs := [.bool false, .int .i64 0, .int .i64 0, .bool false, .int .i64 0, .int .i64 0, .slice none 0 0, .slice none 0 0, .slice none 0 0, .int .i64 s.frm, .slice none 0 0, .slice RA n rc]) HK9.out
    have HTR := Lib.hid (thereB HK09.out 12 rfl)
    have hone1 : ([.bool false, .int .i64 0, .int .i64 0, .bool false, .int .i64 0, .int .i64 0, .slice none 0 0, .slice none 0 0, .slice none 0 0, .int .i64 s.frm, .slice none 0 0, .slice RA n rc].toArray : Array Value).all (·.oneCell') = true := by simp [Value.oneCell']
    have HX := Lib.hid (HA9.out.im.apart (w := w) (R := w.heap.size) (show Dk.Fr [w.heap.size] w9 (w9.setCells w.heap.size 0 [.bool false, .int .i64 0, .int .i64 0, .bool false, .int .i64 0, .int .i64 0, .slice none 0 0, .slice none 0 0, .slice none 0 0, .int .i64 s.frm, .slice none 0 0, .slice RA n rc]) from fr_setCells _ _ _ (Dk.Fr.refl _ _) (.inl (by simp))) (Nat.le_refl _) HLT.out HLR.out HK09.out (by decide))
    have HFX := Lib.hid (show Dk.Fr [b.nb] w (w9.setCells w.heap.size 0 [.bool false, .int .i64 0, .int .i64 0, .bool false, .int .i64 0, .int .i64 0, .slice none 0 0, .slice none 0 0, .slice none 0 0, .int .i64 s.frm, .slice none 0 0, .slice RA n rc]) from fr_setCells _ _ _ HF9.out (.inr (Nat.le_refl _)))
    have HRX := Lib.hid (show (w9.setCells w.heap.size 0 [.bool false, .int .i64 0, .int .i64 0, .bool false, .int .i64 0, .int .i64 0, .slice none 0 0, .slice none 0 0, .slice none 0 0, .int .i64 s.frm, .slice none 0 0, .slice RA n rc]).rangeAt w.heap.size 0 [.bool false, .int .i64 0, .int .i64 0, .bool false, .int .i64 0, .int .i64 0, .slice none 0 0, .slice none 0 0, .slice none 0 0, .int .i64 s.frm, .slice none 0 0, .slice RA n rc] from World.rangeAt_setCells_same _ _ _ _ (by exact HTR.out))
    go_wp2_with (first | refine wpList_load_mid rfl 48 _ rfl (w.heap.size + 1) 0 rfl _ _ l1 hun rfl hin ?_ | (refine wpList_store_mid rfl 48 _ _ rfl w.heap.size 0 [.bool false, .int .i64 0, .int .i64 0, .bool false, .int .i64 0, .int .i64 0, .slice none 0 0, .slice none 0 0, .slice none 0 0, .int .i64 s.frm, .slice none 0 0, .slice RA n rc].toArray rfl rfl HTR.out hin hone1 ?_; change wpList _ _ _ _ _ (w9.setCells w.heap.size 0 [.bool false, .int .i64 0, .int .i64 0, .bool false, .int .i64 0, .int .i64 0, .slice none 0 0, .slice none 0 0, .slice none 0 0, .int .i64 s.frm, .slice none 0 0, .slice RA n rc]); generalize w9.setCells w.heap.size 0 [.bool false, .int .i64 0, .int .i64 0, .bool false, .int .i64 0, .int .i64 0, .slice none 0 0, .slice none 0 0, .slice none 0 0, .int .i64 s.frm, .slice none 0 0, .slice RA n rc] = wx at *))
    refine bodyPost_ret (results_cell_mid rfl _ _ w.heap.size _ _ rfl HRX.out hun rfl hin) rfl ?_
    exact outIs_mk false 0 0 HRV.out HTT.out HTV.out HX.out HFX.out
end Go.Proofs.YtjadfpcipicckaaGreat.Rf

namespace Go.Proofs.YtjadfpcipicckaaGreat.Rf
open Go.RowKit Go.Shelf Go.Proofs.YtjadfpcipicckaaGreat.Fld
open Go.Proofs.YtjadfpcipicckaaGreat.Qu (RdI)
set_option linter.unusedVariables false

theorem validIndex_any (n : Int) (w : World) : Calls Tryz.prog 36 #[.int .i64 n] w fun e w' => e = .returned (.bool (Rg.okN n)) ∧ w = w' := by
  have he : Rg.okN n = (decide (0 ≤ n) && decide (n ≤ 1099511627776)) := rfl
  by_cases h0 : 0 ≤ n
  · by_cases h1 : n ≤ 1099511627776
    · rw [he, decide_eq_true h0, decide_eq_true h1]
      clear he
      go_enter Tryz.func36, Tryz.ntmps36
      go_wp2
      go_ret
      exact ⟨rfl, rfl⟩
    · have h2 : decide (n ≤ 1099511627776) = false := decide_eq_false h1
      rw [he, decide_eq_true h0, h2]
      clear he
      go_enter Tryz.func36, Tryz.ntmps36
      go_wp2
      go_ret
      exact ⟨rfl, rfl⟩
  · have h2 : decide (0 ≤ n) = false := decide_eq_false h0
    rw [he, h2]
    clear he
    go_enter Tryz.func36, Tryz.ntmps36
    go_wp2
    go_ret
    exact ⟨rfl, rfl⟩
/-- a snapshot, by value -/
def snV (i t : Int) (VA : Option Addr) (vn vc : Nat) (LA : Option Addr) (ln lc : Nat) (DA : Option Addr) (dn dc : Nat) : Value := .agg #[.int .i64 i, .int .i64 t, .slice VA vn vc, .slice LA ln lc, .slice DA dn dc]
def snC (i t : Int) (VA : Option Addr) (vn vc : Nat) (LA : Option Addr) (ln lc : Nat) (DA : Option Addr) (dn dc : Nat) : Array Value := #[.int .i64 i, .int .i64 t, .slice VA vn vc, .slice LA ln lc, .slice DA dn dc]
def okSnap (i t : Int) (vs ls : List Int) (dn : Nat) : Bool := Rg.okN i && (Rg.okN t && (Qu.grpOk vs ls && decide (dn ≤ 60000)))
set_option maxHeartbeats 1600000 in
theorem validSnap_any (i t : Int) (VA : Option Addr) (vn vc : Nat) (vs : List Int) (LA : Option Addr) (ln lc : Nat) (ls : List Int) (DA : Option Addr) (dn dc : Nat) (w : World) (hv : RdI w VA vn vs) (hl : RdI w LA ln ls) :
    Calls Tryz.prog 15 #[snV i t VA vn vc LA ln lc DA dn dc] w fun e w' => e = .returned (.bool (okSnap i t vs ls dn)) ∧ Below w.heap.size w w' := by
  have hal := Rg.alloc_below' w (.cells (snC i t VA vn vc LA ln lc DA dn dc) 29)
  have hk := Rg.Blk.new w (snC i t VA vn vc LA ln lc DA dn dc) 29
  have HAL := Lib.hid hal
  have HK := Lib.hid hk
  have HR := Lib.hid (Qu.right_any VA vn vc vs LA ln lc ls _ (hv.below hal) (hl.below hal))
  have HI := Lib.hid (fun W => validIndex_any i W)
  have HT := Lib.hid (fun W => validIndex_any t W)
  have k0 := hk.cell 0 (.int .i64 i) rfl
  have k1 := hk.cell 1 (.int .i64 t) rfl
  have k2 := hk.cell 2 (.slice VA vn vc) rfl
  have k3 := hk.cell 3 (.slice LA ln lc) rfl
  unfold okSnap snV
  unfold Qu.grpV at HR
  unfold snC at *
  clear hal hk hv hl
  cases h1 : Rg.okN i with
  | false =>
    rw [h1] at HI
    clear h1
    go_enter Tryz.func15, Tryz.ntmps15
    go_wp2_with fail
    refine (HI.out _).mono ?_
    rintro e w' ⟨rfl, rfl⟩
    go_wp2
    go_ret
    exact ⟨rfl, HAL.out⟩
  | true =>
    rw [h1] at HI
    clear h1
    cases h2 : Rg.okN t with
    | false =>
      rw [h2] at HT
      clear h2
      go_enter Tryz.func15, Tryz.ntmps15
      go_wp2_with fail
      refine (HI.out _).mono ?_
      rintro e w' ⟨rfl, rfl⟩
      go_wp2_with fail
      refine (HT.out _).mono ?_
      rintro e w' ⟨rfl, rfl⟩
      go_wp2
      go_ret
      exact ⟨rfl, HAL.out⟩
    | true =>
      rw [h2] at HT
      clear h2
      cases h3 : Qu.grpOk vs ls with
      | false =>
        rw [h3] at HR
        clear h3
        go_enter Tryz.func15, Tryz.ntmps15
        go_wp2_with fail
        refine (HI.out _).mono ?_
        rintro e w' ⟨rfl, rfl⟩
        go_wp2_with fail
        refine (HT.out _).mono ?_
        rintro e w' ⟨rfl, rfl⟩
        go_wp2_with fail
        refine HR.out.mono ?_
        rintro e w1 ⟨rfl, hb1⟩
        have HB1 := Lib.hid (HAL.out.trans (hb1.mono HAL.out.size))
        clear hb1
        go_wp2
        go_ret
        exact ⟨rfl, HB1.out⟩
      | true =>
        rw [h3] at HR
        clear h3
        by_cases hd : dn ≤ 60000
        · have hq : decide (dn ≤ 60000) = true := by simp [hd]
          have hd' : (dn : Int) ≤ 60000 := by omega
          rw [hq]
          clear hq hd
          go_enter Tryz.func15, Tryz.ntmps15
          go_wp2_with fail
          refine (HI.out _).mono ?_
          rintro e w' ⟨rfl, rfl⟩
          go_wp2_with fail
          refine (HT.out _).mono ?_
          rintro e w' ⟨rfl, rfl⟩
          go_wp2_with fail
          refine HR.out.mono ?_
          rintro e w1 ⟨rfl, hb1⟩
          have HB1 := Lib.hid (HAL.out.trans (hb1.mono HAL.out.size))
          have k4 := (HK.out.below hb1).cell 4 (.slice DA dn dc) rfl
          clear hb1
          go_wp2
          go_ret
          exact ⟨rfl, HB1.out⟩
        · have hq : decide (dn ≤ 60000) = false := by simp [hd]
          have hd' : ¬ (dn : Int) ≤ 60000 := by omega
          have HQ2 := Lib.hid (decide_eq_false hd')
          rw [hq]
          clear hq hd
          go_enter Tryz.func15, Tryz.ntmps15
          go_wp2_with fail
          refine (HI.out _).mono ?_
          rintro e w' ⟨rfl, rfl⟩
          go_wp2_with fail
          refine (HT.out _).mono ?_
          rintro e w' ⟨rfl, rfl⟩
          go_wp2_with fail
          refine HR.out.mono ?_
          rintro e w1 ⟨rfl, hb1⟩
          have HB1 := Lib.hid (HAL.out.trans (hb1.mono HAL.out.size))
          have k4 := (HK.out.below hb1).cell 4 (.slice DA dn dc) rfl
          clear hb1
          go_wp2
          go_ret
          exact ⟨by show Ending.returned (Value.bool (decide ((dn : Int) ≤ 60000))) = _; rw [HQ2.out]; rfl, HB1.out⟩
/-- a group that shares no memory, nil having no capacity -/
def CgIs (w : World) (vs ls : List Int) (e : Ending) (w' : World) : Prop := ∃ A1 c1 A2 c2, e = .returned (.agg #[.slice A1 vs.length c1, .slice A2 ls.length c2]) ∧ (A1 = none → c1 = 0) ∧ (A2 = none → c2 = 0) ∧ RdI w' A1 vs.length vs ∧ RdI w' A2 ls.length ls ∧ (∀ a, A1 = some a → w.heap.size ≤ a.block ∧ a.block < w'.heap.size) ∧ (∀ a, A2 = some a → w.heap.size ≤ a.block ∧ a.block < w'.heap.size) ∧ Below w.heap.size w w'
set_option maxRecDepth 100000 in
set_option maxHeartbeats 3200000 in
theorem cgroup_any (VA : Option Addr) (vc : Nat) (vs : List Int) (LA : Option Addr) (lc : Nat) (ls : List Int) (w : World) (hv : RdI w VA vs.length vs) (hl : RdI w LA ls.length ls) (h1 : vs.length ≤ 1000) (h2 : ls.length ≤ 1000) :
    Calls Tryz.prog 46 #[Qu.grpV VA vs.length vc LA ls.length lc] w (CgIs w vs ls) := by
  have hb0 : Below w.heap.size w ((w.alloc (.cells #[.slice VA vs.length vc, .slice LA ls.length lc] 26)).alloc (.cells #[.slice none 0 0, .slice none 0 0] 26)) := (Qu.alloc_below w _).trans ((Qu.alloc_below (w.alloc (.cells #[.slice VA vs.length vc, .slice LA ls.length lc] 26)) _).mono (Qu.alloc_below w _).size)
  have hk1 := (Qu.Blk.new w #[.slice VA vs.length vc, .slice LA ls.length lc] 26).past (.cells #[.slice none 0 0, .slice none 0 0] 26)
  have hk2 := Qu.Blk.new (w.alloc (.cells #[.slice VA vs.length vc, .slice LA ls.length lc] 26)) #[.slice none 0 0, .slice none 0 0] 26
  rw [show (w.alloc (.cells #[.slice VA vs.length vc, .slice LA ls.length lc] 26)).heap.size = w.heap.size + 1 by simp] at hk2
  have HB0 := Lib.hid hb0
  have HK1 := Lib.hid hk1
  have HK2 := Lib.hid hk2
  have c0 := hk1.cell 0 (.slice VA vs.length vc) rfl
  have c1 := hk1.cell 1 (.slice LA ls.length lc) rfl
  have z0 := hk2.cell 0 (.slice none 0 0) rfl
  have z1 := hk2.cell 1 (.slice none 0 0) rfl
  have HV := Lib.hid (fun W (hW : Below w.heap.size w W) => El.cloneI_any VA vs.length vc vs W (hv.below hW) h1)
  have HL := Lib.hid (fun W (hW : Below w.heap.size w W) => El.cloneI_any LA ls.length lc ls W (hl.below hW) h2)
  have HN1 := Lib.hid (show vs.length ≤ 1000000 by omega)
  have HN2 := Lib.hid (show ls.length ≤ 1000000 by omega)
  unfold Qu.grpV CgIs
  generalize hwb : (w.alloc (.cells #[.slice VA vs.length vc, .slice LA ls.length lc] 26)).alloc (.cells #[.slice none 0 0, .slice none 0 0] 26) = wb at *
  have HDW := Lib.hid (El.below_d1 wb)
  subst hwb
  clear hb0 hk1 hk2 hv hl
  go_enter Tryz.func46, Tryz.ntmps46
  go_wp2_with fail
  go_region_held3 (fun w' => w'.cell? ⟨w.heap.size, 0, none⟩ = some (.slice VA vs.length vc) ∧ w'.cell? ⟨w.heap.size, 1, none⟩ = some (.slice LA ls.length lc)) (first | exact ⟨by assumption, by assumption⟩ | go_keep) (first
    | (go_at_call 80; have _ := HO1; refine (HL.out _ (by first | exact HB1.out)).mono ?_; rintro e w2 ⟨v2, rfl, hO2⟩; obtain ⟨A2, k2, rfl, hr2, hn2, _⟩ := hO2.form (by exact HN2.out); have HO2 := Lib.hid hO2; have HR2 := Lib.hid hr2; have HN22 := Lib.hid hn2; have HBB2 := Lib.hid (HBB1.out.trans (hO2.1.mono HBB1.out.size)); have d0 := (HK1.out.below HBB2.out).cell 0 _ rfl; have d1 := (HK1.out.below HBB2.out).cell 1 _ rfl; have y0 := (HK2.out.below HBB2.out).cell 0 _ rfl; have y1 := (HK2.out.below HBB2.out).cell 1 _ rfl; have f0 := Qu.Blk.free (HK2.out.below HBB2.out) 0; have f1 := Qu.Blk.free (HK2.out.below HBB2.out) 1; clear hO2 hr2 hn2)
    | (go_at_call 80; refine (HV.out _ (by exact HB0.out.drew)).mono ?_; rintro e w1 ⟨v1, rfl, hO1⟩; obtain ⟨A1, k1, rfl, hr1, hn1, _⟩ := hO1.form (by exact HN1.out); have HO1 := Lib.hid hO1; have HR1 := Lib.hid hr1; have HN11 := Lib.hid hn1; have HBB1 := Lib.hid (HDW.out.trans hO1.1); have HB1 := Lib.hid (HB0.out.trans (HBB1.out.mono HB0.out.size)); have c0 := (HK1.out.below HBB1.out).cell 0 _ rfl; have c1 := (HK1.out.below HBB1.out).cell 1 _ rfl; clear hO1 hr1 hn1))
  all_goals
    go_wp2
    have hK := HK2.out.below HBB2.out
    have hG := heap_setCell_same _ (w.heap.size + 1) 1 _ _ (.slice A2 ls.length k2) (heap_setCell_same w2 (w.heap.size + 1) 0 _ _ (.slice A1 vs.length k1) hK)
    refine bodyPost_ret (results_cell_row rfl _ _ (w.heap.size + 1) _ #[.slice A1 vs.length k1, .slice A2 ls.length k2] (0, 0) _ rfl hG Tryz.underlying26 rfl (by kernel_rfl)) rfl ?_
    have hf : Dk.Fr [w.heap.size + 1] w2 ((w2.setCell ⟨w.heap.size + 1, 0, none⟩ (.slice A1 vs.length k1)).setCell ⟨w.heap.size + 1, 1, none⟩ (.slice A2 ls.length k2)) := ((Dk.Fr.refl _ _).setCell _ (.inl (by simp)) _).setCell _ (.inl (by simp)) _
    have hs0 : ((w.alloc (.cells #[.slice VA vs.length vc, .slice LA ls.length lc] 26)).alloc (.cells #[.slice none 0 0, .slice none 0 0] 26)).drew.heap.size = w.heap.size + 2 := by show ((w.alloc (.cells #[.slice VA vs.length vc, .slice LA ls.length lc] 26)).alloc (.cells #[.slice none 0 0, .slice none 0 0] 26)).heap.size = _; simp
    have ho1 := El.ownI_lt HO1.out
    have ho2 := El.ownI_lt HO2.out
    have hs1 := HO1.out.1.size
    have hs2 := HO2.out.1.size
    have hs3 := hf.size
    refine ⟨A1, k1, A2, k2, rfl, HN11.out, HN22.out, El.rdI_fr (HR1.out.below HO2.out.1) hf ?_, El.rdI_fr HR2.out hf ?_, ?_, ?_, Dk.Fr.to_below (HB0.out.trans (HBB2.out.mono HB0.out.size)) hf (by intro i hi; simp at hi; omega)⟩
    · intro a ha hm
      have := ho1 a ha
      simp at hm
      omega
    · intro a ha hm
      have := ho2 a ha
      simp at hm
      omega
    · intro a ha
      have := ho1 a ha
      omega
    · intro a ha
      have := ho2 a ha
      omega
/-- a snapshot that shares no memory -/
structure CsP (w w' : World) (vs ls ds : List Int) (A1 : Option Addr) (c1 : Nat) (A2 : Option Addr) (c2 : Nat) (A3 : Option Addr) (c3 : Nat) : Prop where
  n2 : A2 = none → c2 = 0
  r1 : RdI w' A1 vs.length vs
  r2 : RdI w' A2 ls.length ls
  b1 : ∀ a, A1 = some a → w.heap.size ≤ a.block ∧ a.block < w'.heap.size
  b2 : ∀ a, A2 = some a → w.heap.size ≤ a.block ∧ a.block < w'.heap.size
  bel : Below w.heap.size w w'
def CsIs (w : World) (i t : Int) (vs ls ds : List Int) (e : Ending) (w' : World) : Prop := ∃ A1 c1 A2 c2 A3 c3, e = .returned (snV i t A1 vs.length c1 A2 ls.length c2 A3 ds.length c3) ∧ CsP w w' vs ls ds A1 c1 A2 c2 A3 c3
set_option maxRecDepth 100000 in
set_option maxHeartbeats 1600000 in
theorem csnap_any (i t : Int) (VA : Option Addr) (vc : Nat) (vs : List Int) (LA : Option Addr) (lc : Nat) (ls : List Int) (DA : Option Addr) (dc : Nat) (ds : List Int) (w : World) (hv : RdI w VA vs.length vs) (hl : RdI w LA ls.length ls) (h1 : vs.length ≤ 1000) (h2 : ls.length ≤ 1000) (hd : Fld.Rd w DA ds.length ds) (hz : DA = none → dc = 0) (hdl : ds.length ≤ 140737488351232) :
    Calls Tryz.prog 19 #[snV i t VA vs.length vc LA ls.length lc DA ds.length dc] w (CsIs w i t vs ls ds) := by
  have hb0 : Below w.heap.size w ((w.alloc (.cells (snC i t VA vs.length vc LA ls.length lc DA ds.length dc) 29)).alloc (.cells (snC 0 0 none 0 0 none 0 0 none 0 0) 29)) := (Rg.alloc_below' w _).trans ((Rg.alloc_below' _ _).mono (Rg.alloc_below' w _).size)
  have hk1 := (Rg.Blk.new w (snC i t VA vs.length vc LA ls.length lc DA ds.length dc) 29).past (.cells (snC 0 0 none 0 0 none 0 0 none 0 0) 29)
  have hk2 := Rg.Blk.new (w.alloc (.cells (snC i t VA vs.length vc LA ls.length lc DA ds.length dc) 29)) (snC 0 0 none 0 0 none 0 0 none 0 0) 29
  rw [World.size_alloc] at hk2
  have HB0 := Lib.hid hb0
  have HK1 := Lib.hid hk1
  have HK2 := Lib.hid hk2
  have z2 := hk1.cell 2 (.slice VA vs.length vc) rfl
  have z3 := hk1.cell 3 (.slice LA ls.length lc) rfl
  have z4 := hk1.cell 4 (.slice DA ds.length dc) rfl
  have f2 := hk1.free 2
  have f3 := hk1.free 3
  have f4 := hk1.free 4
  have HG := Lib.hid (fun W (hW : Below w.heap.size w W) => cgroup_any VA vc vs LA lc ls W (hv.below hW) (hl.below hW) h1 h2)
  have HD := Lib.hid (fun W (hW : Below w.heap.size w W) => Rg.clone8_any DA ds.length dc ds W (hd.below hW) hz (by omega))
  unfold Qu.grpV at HG
  unfold snV
  unfold snC at *
  generalize hvn : vs.length = vn at *
  generalize hln : ls.length = ln at *
  generalize hdn : ds.length = dn at *
  have HLN := Lib.hid (And.intro hvn (And.intro hln hdn))
  clear hb0 hk1 hk2 hv hl hd hz h1 h2 hvn hln hdn
  go_enter Tryz.func19, Tryz.ntmps19
  go_wp2_with fail
  generalize (w.alloc (.cells #[.int .i64 i, .int .i64 t, .slice VA vn vc, .slice LA ln lc, .slice DA dn dc] 29)).alloc (.cells #[.int .i64 0, .int .i64 0, .slice none 0 0, .slice none 0 0, .slice none 0 0] 29) = wb at *
  have HBd := Lib.hid (HB0.out.trans ((Below.refl wb.heap.size wb).drew.mono HB0.out.size))
  have HWD := Lib.hid (Below.refl wb.heap.size wb).drew
  go_region_with (first
    | (go_at_call 46; refine (HG.out _ (by exact HBd.out)).mono ?_; rintro e w1 ⟨A1, k1, A2, k2, he, n1, n2, r1, r2, b1, b2, hb⟩; have hx := HLN.out; rw [hx.1, hx.2.1] at he; subst he; have HB1 := Lib.hid (HBd.out.trans (hb.mono HBd.out.size)); have HW1 := Lib.hid (HWD.out.trans hb); have HP1 := Lib.hid (And.intro n2 (And.intro r1 (And.intro r2 (And.intro b1 b2)))); have y4 := (HK1.out.below HW1.out).cell 4 (.slice DA dn dc) rfl; clear n1 n2 r1 r2 b1 b2 hb hx)
    | (go_at_call 47; refine (HD.out _ (by exact HB1.out)).mono ?_; rintro e w2 ⟨v2, rfl, hO⟩; obtain ⟨A3, k3, hv3, _⟩ := hO.sl dn HLN.out.2.2; subst hv3; have HB2 := Lib.hid hO.1; have HW2 := Lib.hid (HW1.out.trans (hO.1.mono HW1.out.size)); have y2 := (HK1.out.below HW2.out).cell 2 (.slice VA vn vc) rfl; have y3 := (HK1.out.below HW2.out).cell 3 (.slice LA ln lc) rfl; have y4 := (HK1.out.below HW2.out).cell 4 (.slice DA dn dc) rfl; have f2 := (HK1.out.below HW2.out).free 2; have f3 := (HK1.out.below HW2.out).free 3; have f4 := (HK1.out.below HW2.out).free 4; clear hO))
  all_goals
    have hfr : Dk.Fr [w.heap.size] w2 (((w2.setCell ⟨w.heap.size, 2, none⟩ (.slice A1 vn k1)).setCell ⟨w.heap.size, 3, none⟩ (.slice A2 ln k2)).setCell ⟨w.heap.size, 4, none⟩ (.slice A3 dn k3)) := (((Dk.Fr.refl _ _).setCell _ (.inl (by simp)) _).setCell _ (.inl (by simp)) _).setCell _ (.inl (by simp)) _
    have HK13 := Lib.hid (Rg.Blk.set (Rg.Blk.set (Rg.Blk.set (HK1.out.below HW2.out) 2 (.slice A1 vn k1) (by show 2 < 5; omega)) 3 (.slice A2 ln k2) (by show 3 < 5; omega)) 4 (.slice A3 dn k3) (by show 4 < 5; omega))
    have HK23 := Lib.hid (show Rg.Blk (((w2.setCell ⟨w.heap.size, 2, none⟩ (.slice A1 vn k1)).setCell ⟨w.heap.size, 3, none⟩ (.slice A2 ln k2)).setCell ⟨w.heap.size, 4, none⟩ (.slice A3 dn k3)) (w.heap.size + 1) _ _ from (hfr.block (w.heap.size + 1) (HK2.out.below HW2.out).lt (by simp)).trans (HK2.out.below HW2.out))
    have HFR := Lib.hid hfr
    clear hfr y2 y3 y4 f2 f3 f4
    generalize ((w2.setCell ⟨w.heap.size, 2, none⟩ (.slice A1 vn k1)).setCell ⟨w.heap.size, 3, none⟩ (.slice A2 ln k2)).setCell ⟨w.heap.size, 4, none⟩ (.slice A3 dn k3) = w3 at *
    have l0 := HK13.out.cell 0 (.int .i64 i) rfl
    have l1 := HK13.out.cell 1 (.int .i64 t) rfl
    have l2 := HK13.out.cell 2 (.slice A1 vn k1) rfl
    have l3 := HK13.out.cell 3 (.slice A2 ln k2) rfl
    have l4 := HK13.out.cell 4 (.slice A3 dn k3) rfl
    have r0 := HK23.out.cell 0 (.int .i64 0) rfl
    have r1 := HK23.out.cell 1 (.int .i64 0) rfl
    have r2 := HK23.out.cell 2 (.slice none 0 0) rfl
    have r3 := HK23.out.cell 3 (.slice none 0 0) rfl
    have r4 := HK23.out.cell 4 (.slice none 0 0) rfl
    have s0 := HK23.out.free 0
    have s1 := HK23.out.free 1
    have s2 := HK23.out.free 2
    have s3 := HK23.out.free 3
    have s4 := HK23.out.free 4
    go_wp2
    have k9 := Rg.Blk.set (Rg.Blk.set (Rg.Blk.set (Rg.Blk.set (Rg.Blk.set HK23.out 0 (.int .i64 i) (by show 0 < 5; omega)) 1 (.int .i64 t) (by show 1 < 5; omega)) 2 (.slice A1 vn k1) (by show 2 < 5; omega)) 3 (.slice A2 ln k2) (by show 3 < 5; omega)) 4 (.slice A3 dn k3) (by show 4 < 5; omega)
    refine bodyPost_ret (results_cell_row rfl _ _ (w.heap.size + 1) _ _ (0, 0) _ rfl k9 Tryz.underlying29 rfl (by kernel_rfl)) rfl ?_
    have hx := HLN.out
    have hf9 : Dk.Fr [w.heap.size, w.heap.size + 1] w2 (((((w3.setCell ⟨w.heap.size + 1, 0, none⟩ (.int .i64 i)).setCell ⟨w.heap.size + 1, 1, none⟩ (.int .i64 t)).setCell ⟨w.heap.size + 1, 2, none⟩ (.slice A1 vn k1)).setCell ⟨w.heap.size + 1, 3, none⟩ (.slice A2 ln k2)).setCell ⟨w.heap.size + 1, 4, none⟩ (.slice A3 dn k3)) := (((((HFR.out.mono (fun i hi => by simp at hi; simp [hi])).setCell _ (.inl (by simp)) _).setCell _ (.inl (by simp)) _).setCell _ (.inl (by simp)) _).setCell _ (.inl (by simp)) _).setCell _ (.inl (by simp)) _
    obtain ⟨p1, p2, p3, p4, p5⟩ := HP1.out
    have hs1 : w.heap.size + 2 ≤ wb.heap.size := by have := HK2.out.lt; omega
    have q1 := HW1.out.size
    have q2 := HB2.out.size
    have q3 := hf9.size
    have hwd : wb.drew.heap.size = wb.heap.size := rfl
    refine ⟨A1, k1, A2, k2, A3, k3, by rw [hx.1, hx.2.1, hx.2.2]; rfl, ⟨p1, El.rdI_fr (p2.below HB2.out) hf9 (fun a ha hm => ?_), El.rdI_fr (p3.below HB2.out) hf9 (fun a ha hm => ?_), fun a ha => ?_, fun a ha => ?_, Dk.Fr.to_below (HB0.out.trans (HW2.out.mono HB0.out.size)) hf9 (by intro i hi; simp at hi; omega)⟩⟩
    · have := p4 a ha; simp at hm; omega
    · have := p5 a ha; simp at hm; omega
    · have := p4 a ha; have := HB0.out.size; omega
    · have := p5 a ha; have := HB0.out.size; omega
end Go.Proofs.YtjadfpcipicckaaGreat.Rf
