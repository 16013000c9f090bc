/-
  Layer 12, a node that is alone: Get, Committed, Out. Conditions: the node lies in memory.
-/
import Derived.Test.YtnhcbampojpgfaaGreatRfK
import Derived.Laws.StructEq
namespace Go.Proofs.YtnhcbampojpgfaaGreat.Rf
open Go.RowKit Go.Shelf Go.Proofs.YtnhcbampojpgfaaGreat.Fld
open Go.Proofs.YtnhcbampojpgfaaGreat.Qu (RdI)
set_option linter.unusedVariables false

set_option maxHeartbeats 800000 in
theorem get_any {lo : Nat} {w : World} {b : PB} {s : AS} (f m : Int) (h : Al lo w b s) : Calls Tryz.prog 17 #[.pointer (some ⟨b.nb, 0, none⟩), .int .i64 f, .int .i64 m] w (Rg.GetIs w (Rg.getE s.g f m)) := by
  have c3 := h.c3
  have HG := Lib.hid (h.get f m w (Below.refl _ _))
  clear h
  generalize Rg.getE s.g f m = l at *
  go_enter Tryz.func17, Tryz.ntmps17
  go_wp2_with fail
  refine HG.out.mono ?_
  rintro e w1 ⟨v, ys, rfl, he, hrow, hd, hb⟩
  obtain ⟨A, cap, hv, _⟩ := Rg.row_slice hrow
  subst hv
  have HE := Lib.hid he
  have HR := Lib.hid hrow
  have HD := Lib.hid hd
  have HB := Lib.hid hb
  clear he hrow hd hb
  go_wp2
  go_ret
  exact ⟨_, ys, rfl, HE.out, HR.out, HD.out, HB.out⟩
set_option maxHeartbeats 800000 in
theorem committed_any {lo : Nat} {w : World} {b : PB} {s : AS} (h : Al lo w b s) : Calls Tryz.prog 15 #[.pointer (some ⟨b.nb, 0, none⟩)] w fun e w' => e = .returned (.int .i64 s.g.com) ∧ w = w' := by
  have c3 := h.c3
  have HG := Lib.hid (h.com w (Below.refl _ _))
  clear h
  go_enter Tryz.func15, Tryz.ntmps15
  go_wp2_with fail
  refine HG.out.mono ?_
  rintro e w1 ⟨rfl, rfl⟩
  go_wp2
  go_ret
  exact ⟨rfl, rfl⟩
/-- what is new -/
def frs (b : PB) (s : AS) : List Value := [.bool false, .int .i64 0, .int .i64 0, .bool false, .int .i64 0, .int .i64 0, .slice none 0 0, .slice none 0 0, .slice none 0 0, .int .i64 s.frm, .slice none 0 0, b.rv]
def fr0 : List Value := [.bool false, .int .i64 0, .int .i64 0, .bool false, .int .i64 0, .int .i64 0, .slice none 0 0, .slice none 0 0, .slice none 0 0, .int .i64 0, .slice none 0 0, .slice none 0 0]
theorem frs_range {lo : Nat} {w : World} {b : PB} {s : AS} (h : Al lo w b s) : w.rangeAt b.nb 12 (frs b s) := by
  intro j v hv
  refine Qu.Blk.cell h.blk (12 + j) v ?_
  unfold frs at hv
  rcases j with _ | _ | _ | _ | _ | _ | _ | _ | _ | _ | _ | _ | j
  all_goals first | exact hv | (simp at hv)
theorem Al.setRv0 {lo : Nat} {w : World} {b : PB} {s : AS} (h : Al lo w b s) : Aft lo w (w.setCell ⟨b.nb, 23, none⟩ (.slice none 0 0)) b { b with rv := .slice none 0 0 } { s with rd := [] } :=
  h.set 23 _ (ndR_rv b s (.slice none 0 0) []) (by omega) rfl rfl (Rg.row_nil _ _ _ _) (fun i hi => by simp [Value.ownBlock] at hi) (fun _ h => h)
/-- all that is new is forgotten -/
theorem Al.outs {lo : Nat} {w : World} {b : PB} {s : AS} (h : Al lo w b s) : Aft lo w (w.setCells b.nb 12 fr0) b { b with rv := .slice none 0 0 } { s with frm := 0, rd := [] } := by
  have h1 := h.keep 12 (.bool false) rfl (by omega)
  have h2 := h1.im.keep 13 (.int .i64 0) rfl (by omega)
  have h3 := h2.im.keep 14 (.int .i64 0) rfl (by omega)
  have h4 := h3.im.keep 15 (.bool false) rfl (by omega)
  have h5 := h4.im.keep 16 (.int .i64 0) rfl (by omega)
  have h6 := h5.im.keep 17 (.int .i64 0) rfl (by omega)
  have h7 := h6.im.keep 18 (.slice none 0 0) rfl (by omega)
  have h8 := h7.im.keep 19 (.slice none 0 0) rfl (by omega)
  have h9 := h8.im.keep 20 (.slice none 0 0) rfl (by omega)
  have ha := h9.im.setFrm 0
  have hb := ha.im.keep 22 (.slice none 0 0) rfl (by omega)
  have hc := hb.im.setRv0
  exact (((((((((((h1.then h2).then h3).then h4).then h5).then h6).then h7).then h8).then h9).then ha).then hb).then hc)
theorem ndR_hT (b : PB) (s : AS) (t : Int) : (ndR b s).setIfInBounds 10 (.int .i64 t) = ndR b { s with hT := t } := rfl
theorem ndR_hV (b : PB) (s : AS) (t : Int) : (ndR b s).setIfInBounds 11 (.int .i64 t) = ndR b { s with hV := t } := rfl
theorem Al.told {lo : Nat} {w : World} {b : PB} {s : AS} (h : Al lo w b s) (t v : Int) : Aft lo w ((w.setCell ⟨b.nb, 10, none⟩ (.int .i64 t)).setCell ⟨b.nb, 11, none⟩ (.int .i64 v)) b b { s with hT := t, hV := v } := by
  have h1 := h.set 10 _ (ndR_hT b s t) (by omega) rfl rfl h.rv (fun _ h => h) (fun _ h => h)
  have h2 := h1.im.set 11 _ (ndR_hV b { s with hT := t } v) (by omega) rfl rfl h1.im.rv (fun _ h => h) (fun _ h => h)
  exact h1.then h2
theorem fr_setCells {S : List Nat} {a : World} (b : Nat) : ∀ (vs : List Value) (o : Nat) {w : World}, Dk.Fr S a w → (b ∈ S ∨ a.heap.size ≤ b) → Dk.Fr S a (w.setCells b o vs)
  | [], _, _, h, _ => h
  | v :: vs, o, _, h, hb => fr_setCells b vs (o + 1) (h.setCell ⟨b, o, none⟩ hb v) hb
/-- what is not the node's, and new, has changed -/
theorem Al.apart {lo R : Nat} {w w1 w' : World} {b : PB} {s : AS} (h : Al lo w1 b s) (hf : Dk.Fr [R] w1 w') (hR : w.heap.size ≤ R) (hfo : ∀ i ∈ b.foot, i < w.heap.size) (hro : ∀ i ∈ b.ro, i < w.heap.size) {cs : Array Value} {ty : TypeId} (hk : Rg.Blk w1 R cs ty) (ht : ty ≠ 5) : Al lo w' b s := by
  refine h.out hf (fun i hi hm => ?_) (fun i hi hm => ?_) (fun i hi cs' hb => ?_)
  · have := hfo i hi; simp at hm; omega
  · have := hro i hi; simp at hm; omega
  · simp at hi; subst hi
    exact Rg.Blk.ne hk hb ht rfl
theorem there12 {lo : Nat} {w : World} {b : PB} {s : AS} (h : Al lo w b s) : w.there b.nb 12 12 := by
  intro j hj
  refine ⟨?_, h.free _⟩
  have hs : 12 + j < (ndR b s).size := by show 12 + j < 27; omega
  rw [Qu.Blk.cell h.blk (12 + j) _ (Array.getElem?_eq_getElem hs)]
  rfl
theorem thereB {w : World} {B : Nat} {cs : Array Value} {ty : TypeId} (h : Rg.Blk w B cs ty) (n : Nat) (hn : cs.size = n) : w.there B 0 n := by
  intro j hj
  rw [Nat.zero_add]
  refine ⟨?_, h.free _⟩
  rw [h.cell j _ (Array.getElem?_eq_getElem (by omega))]
  rfl
theorem rangeB {w : World} {B : Nat} {cs : List Value} {ty : TypeId} (h : Rg.Blk w B cs.toArray ty) : w.rangeAt B 0 cs := blk_range h
theorem foot_nil (b : PB) : ∀ i ∈ ({ b with rv := .slice none 0 0 } : PB).foot, i ∈ b.foot := by
  intro i hi
  rcases mem_foot.1 hi with h1 | h1 | h1 | h1 | h1 | h1 | h1
  · exact mem_foot.2 (by simp [show i = b.nb from h1])
  · exact mem_foot.2 (by simp [show i = b.p.g from h1])
  · exact mem_foot.2 (by simp [show i = b.p.b from h1])
  · exact mem_foot.2 (by simp [show i = b.g from h1])
  · exact mem_foot.2 (by simp [show b.v.ownBlock = some i from h1])
  · simp [Value.ownBlock] at h1
  · exact mem_foot.2 (by simp [show b.pm = some i from h1])
theorem results_cell_mid {P : Program} {fn : Func} {p : Tmp} {ty : TypeId} (h : fn.results = #[.cell p ty]) (tmps : Array Value) (w : World) (g : Nat) (cs : List Value) (d : TypeDesc)
    (hp : tmps.getD p undef = .pointer (some ⟨g, 0, none⟩)) (hg : w.rangeAt g 0 cs) (hu : P.underlying ty = some d) (hd : d.isRow = true) (hi : (P.info? ty).map (·.size) = some cs.length) :
    (results fn tmps).run P w = .ok (.agg cs.toArray) w := by
  have hp' : tmps[p]?.getD undef = .pointer (some ⟨g, 0, none⟩) := by simpa using hp
  simp [results, h, hp', asAddr, run_loadVar_mid w g 0 ty cs d hg hu hd hi]
theorem fr0_one : (#[.bool false, .int .i64 0, .int .i64 0, .bool false, .int .i64 0, .int .i64 0, .slice none 0 0, .slice none 0 0, .slice none 0 0, .int .i64 0, .slice none 0 0, .slice none 0 0] : Array Value).all (·.oneCell') = true := by simp [Value.oneCell']
theorem ready_size : (Tryz.prog.info? 54).map (·.size) = some 12 := by kernel_rfl
theorem neq_hard (a b c d : Int) (w : World) : (binOp .neq 51 (.agg #[.int .i64 a, .int .i64 b]) (.agg #[.int .i64 c, .int .i64 d])).run Tryz.prog w = .ok (.bool (!(a == c && b == d))) w := by
  have u3 := Tryz.underlying3
  have a3 := Tryz.isAgg3
  have z3 := Tryz.sizeOf3
  have hS : Tryz.prog.underlying 51 = some (.struct (Tryz.prog.fieldsOf 51)) := by kernel_rfl
  have hp : Tryz.prog.stoodInHeld 51 = false := by kernel_rfl
  rw [run_neq_struct, show (10000 : Nat) = 9999 + 1 from rfl, run_equalIn_agg w 9999 51 _ _ hS hp]
  simp only [Program.fieldsOf, Tryz.underlying51]
  go_simp
  by_cases h1 : a = c <;> by_cases h2 : b = d <;> simp [h1, h2]
theorem guard_hard (op : BinOp) (x y : Operand) (xs ys : Array Value) (w : World) : (eqGuard op 51 x y (.agg xs) (.agg ys)).run Tryz.prog w = .ok () w := run_eqGuard_agg w op _ x y xs ys (by kernel_rfl)
def outV (s : AS) (b : PB) (hn : Bool) (t v : Int) : Value := .agg #[.bool hn, .int .i64 t, .int .i64 v, .bool false, .int .i64 0, .int .i64 0, .slice none 0 0, .slice none 0 0, .slice none 0 0, .int .i64 s.frm, .slice none 0 0, b.rv]
def OutIs (lo : Nat) (w : World) (b : PB) (s : AS) (e : Ending) (w' : World) : Prop := (∃ hn t v, e = .returned (outV s b hn t v)) ∧ Aft lo w w' b { b with rv := .slice none 0 0 } { s with hT := s.e.term, hV := s.e.vote, frm := 0, rd := [] } ∧ Dk.Fr [b.nb] w w'
theorem outIs_mk {lo : Nat} {w w' : World} {b : PB} {s : AS} {RA : Option Addr} {n rc : Nat} {tt tv : Int} (hn : Bool) (t v : Int) (hrv : b.rv = .slice RA n rc) (h1 : s.e.term = tt) (h2 : s.e.vote = tv) (hi : Al lo w' { b with rv := .slice none 0 0 } { s with hT := tt, hV := tv, frm := 0, rd := [] }) (hf : Dk.Fr [b.nb] w w') :
    OutIs lo w b s (.returned (.agg #[.bool hn, .int .i64 t, .int .i64 v, .bool false, .int .i64 0, .int .i64 0, .slice none 0 0, .slice none 0 0, .slice none 0 0, .int .i64 s.frm, .slice none 0 0, .slice RA n rc])) w' := by
  subst h1 h2
  exact ⟨⟨hn, t, v, by unfold outV; rw [hrv]⟩, ⟨hi, hf.mono (fun i hi => mem_foot.2 (.inl (by simpa using hi))), fun i hi => .inl (foot_nil b i hi), fun i hi => .inl hi, rfl⟩, hf⟩
set_option maxRecDepth 100000 in
set_option maxHeartbeats 800000 in
theorem out_any {lo : Nat} {w : World} {b : PB} {s : AS} (h : Al lo w b s) : Calls Tryz.prog 21 #[.pointer (some ⟨b.nb, 0, none⟩)] w (OutIs lo w b s) := by
  have hR := Rg.alloc_below' w (.cells #[.bool false, .int .i64 0, .int .i64 0, .bool false, .int .i64 0, .int .i64 0, .slice none 0 0, .slice none 0 0, .slice none 0 0, .int .i64 0, .slice none 0 0, .slice none 0 0] 54)
  have h1 := h.below hR
  have l0 := frs_range h1
  obtain ⟨RA, rc, hrv, _⟩ := Rg.row_slice h.rv
  unfold frs at l0
  rw [hrv] at l0
  have HS := Lib.hid h
  have HRV := Lib.hid hrv
  have HS1 := Lib.hid h1
  have HBR := Lib.hid hR
  clear hrv hR h1
  generalize hnn : s.rd.length = n at *
  have HNN := Lib.hid hnn
  clear hnn
  have hun := Tryz.underlying54
  have hin := ready_size
  have hR1 := Rg.alloc_below' (w.alloc (.cells #[.bool false, .int .i64 0, .int .i64 0, .bool false, .int .i64 0, .int .i64 0, .slice none 0 0, .slice none 0 0, .slice none 0 0, .int .i64 0, .slice none 0 0, .slice none 0 0] 54)) (.cells #[.bool false, .int .i64 0, .int .i64 0, .bool false, .int .i64 0, .int .i64 0, .slice none 0 0, .slice none 0 0, .slice none 0 0, .int .i64 s.frm, .slice none 0 0, .slice RA n rc] 54)
  have e0 := (HS1.out.below hR1).c0
  have HS2 := Lib.hid (HS1.out.below hR1)
  have HB2 := Lib.hid (HBR.out.trans (hR1.mono HBR.out.size))
  have k0 := (Rg.Blk.new w #[.bool false, .int .i64 0, .int .i64 0, .bool false, .int .i64 0, .int .i64 0, .slice none 0 0, .slice none 0 0, .slice none 0 0, .int .i64 0, .slice none 0 0, .slice none 0 0] 54).past (.cells #[.bool false, .int .i64 0, .int .i64 0, .bool false, .int .i64 0, .int .i64 0, .slice none 0 0, .slice none 0 0, .slice none 0 0, .int .i64 s.frm, .slice none 0 0, .slice RA n rc] 54)
  have k1 := Rg.Blk.new (w.alloc (.cells #[.bool false, .int .i64 0, .int .i64 0, .bool false, .int .i64 0, .int .i64 0, .slice none 0 0, .slice none 0 0, .slice none 0 0, .int .i64 0, .slice none 0 0, .slice none 0 0] 54)) #[.bool false, .int .i64 0, .int .i64 0, .bool false, .int .i64 0, .int .i64 0, .slice none 0 0, .slice none 0 0, .slice none 0 0, .int .i64 s.frm, .slice none 0 0, .slice RA n rc] 54
  rw [World.size_alloc] at k1
  have HK0 := Lib.hid k0
  have HK1 := Lib.hid k1
  have HH := Lib.hid (El.hard_any b.p s.e _ HS2.out.el)
  clear h hR1 k0 k1
  go_enter Tryz.func21, Tryz.ntmps21
  go_wp2_with (refine wpList_load_mid rfl 54 _ rfl b.nb 12 rfl _ _ l0 hun rfl hin ?_)
  generalize (w.alloc (.cells #[.bool false, .int .i64 0, .int .i64 0, .bool false, .int .i64 0, .int .i64 0, .slice none 0 0, .slice none 0 0, .slice none 0 0, .int .i64 0, .slice none 0 0, .slice none 0 0] 54)).alloc (.cells #[.bool false, .int .i64 0, .int .i64 0, .bool false, .int .i64 0, .int .i64 0, .slice none 0 0, .slice none 0 0, .slice none 0 0, .int .i64 s.frm, .slice none 0 0, .slice RA n rc] 54) = w2 at *
  clear l0
  refine HH.out.mono ?_
  rintro e w3 ⟨rfl, hb3⟩
  have hb4 := hb3.alloc hb3.size (.cells #[.int .i64 s.e.term, .int .i64 s.e.vote] 51)
  have HB4 := Lib.hid (HB2.out.trans (hb4.mono HB2.out.size))
  have HS4 := Lib.hid (HS2.out.below hb4)
  have HK04 := Lib.hid (HK0.out.below hb4)
  have HK14 := Lib.hid (HK1.out.below hb4)
  have HKH := Lib.hid (Rg.Blk.new w3 #[.int .i64 s.e.term, .int .i64 s.e.vote] 51)
  have HHX := Lib.hid (show w.heap.size + 2 ≤ w3.heap.size by have := HK1.out.lt; have := hb3.size; omega)
  clear hb3 hb4 e0
  go_wp2_with fail
  generalize w3.alloc (.cells #[.int .i64 s.e.term, .int .i64 s.e.vote] 51) = w4 at *
  generalize w3.heap.size = hb at *
  have c10 := HS4.out.c10
  have c11 := HS4.out.c11
  have g0 := HKH.out.cell 0 (.int .i64 s.e.term) rfl
  have g1 := HKH.out.cell 1 (.int .i64 s.e.vote) rfl
  generalize htt : s.e.term = tt at *
  generalize htv : s.e.vote = tv at *
  have HTT := Lib.hid htt
  have HTV := Lib.hid htv
  clear htt htv
  generalize s.hT = ot at *
  generalize s.hV = ov at *
  have qn := fun w => neq_hard tt tv ot ov w
  have qg := fun op x y w => guard_hard op x y #[.int .i64 tt, .int .i64 tv] #[.int .i64 ot, .int .i64 ov] w
  generalize hdif : (!(tt == ot && tv == ov)) = df at *
  go_quiet (fail)
  have HB5 := Lib.hid (HB4.out.trans ((Qu.below_dr w4 nq).mono HB4.out.size))
  have HS5 := Lib.hid (HS4.out.below (Qu.below_dr w4 nq))
  have HK05 := Lib.hid (HK04.out.below (Qu.below_dr w4 nq))
  have HK15 := Lib.hid (HK14.out.below (Qu.below_dr w4 nq))
  have HKH5 := Lib.hid (HKH.out.below (Qu.below_dr w4 nq))
  clear c10 c11 g0 g1
  generalize w4.drewN nq = w5 at *
  have HN1 := Lib.hid (show hb ≠ w.heap.size + 1 by have := HHX.out; omega)
  cases df with
  | true =>
    have g0 := HKH5.out.cell 0 (.int .i64 tt) rfl
    have g1 := HKH5.out.cell 1 (.int .i64 tv) rfl
    have r0 := HK15.out.cell 0 (.bool false) rfl
    have r1 := HK15.out.cell 1 (.int .i64 0) rfl
    have r2 := HK15.out.cell 2 (.int .i64 0) rfl
    have z0 := HK15.out.free 0
    have z1 := HK15.out.free 1
    have z2 := HK15.out.free 2
    have hne := HN1.out
    go_upto_region 4 with fail
    go_region
    have HFR := Lib.hid (show Dk.Fr [w.heap.size + 1] w5 (((w5.setCell ⟨w.heap.size + 1, 0, none⟩ (.bool true)).setCell ⟨w.heap.size + 1, 1, none⟩ (.int .i64 tt)).setCell ⟨w.heap.size + 1, 2, none⟩ (.int .i64 tv)) from (((Dk.Fr.refl _ _).setCell _ (.inl (by simp)) _).setCell _ (.inl (by simp)) _).setCell _ (.inl (by simp)) _)
    have HK6 := Lib.hid (Rg.Blk.set (Rg.Blk.set (Rg.Blk.set HK15.out 0 (.bool true) (by show 0 < 12; omega)) 1 (.int .i64 tt) (by show 1 < 12; omega)) 2 (.int .i64 tv) (by show 2 < 12; omega))
    have HK06 := Lib.hid (show Rg.Blk (((w5.setCell ⟨w.heap.size + 1, 0, none⟩ (.bool true)).setCell ⟨w.heap.size + 1, 1, none⟩ (.int .i64 tt)).setCell ⟨w.heap.size + 1, 2, none⟩ (.int .i64 tv)) w.heap.size _ _ from (HFR.out.block w.heap.size HK05.out.lt (by simp)).trans HK05.out)
    have HS6 := Lib.hid (HS5.out.apart (w := w) HFR.out (by omega) HS.out.foot_lt HS.out.rl HK15.out (by decide))
    have HF6 := Lib.hid (show Dk.Fr [b.nb] w (((w5.setCell ⟨w.heap.size + 1, 0, none⟩ (.bool true)).setCell ⟨w.heap.size + 1, 1, none⟩ (.int .i64 tt)).setCell ⟨w.heap.size + 1, 2, none⟩ (.int .i64 tv)) from (Dk.Fr.below HB5.out).trans HFR.out (fun i hi => .inr (by simp at hi; omega)))
    clear r0 r1 r2 z0 z1 z2 g0 g1
    generalize ((w5.setCell ⟨w.heap.size + 1, 0, none⟩ (.bool true)).setCell ⟨w.heap.size + 1, 1, none⟩ (.int .i64 tt)).setCell ⟨w.heap.size + 1, 2, none⟩ (.int .i64 tv) = w6d at *
    have HK6 := Lib.hid (HK6.out.below (Below.refl _ w6d).drew)
    have HK06 := Lib.hid (HK06.out.below (Below.refl _ w6d).drew)
    have HS6 := Lib.hid (HS6.out.below (Below.refl _ w6d).drew)
    have HF6 := Lib.hid (HF6.out.same (Dk.Fr.below (Below.refl _ w6d).drew))
    generalize w6d.drew = w6 at *
    have q3 := HK6.out.cell 3 (.bool false) rfl
    have e0 := HS6.out.c0
    have HH6 := Lib.hid (El.hard_any b.p s.e _ HS6.out.el)
    rw [HTT.out, HTV.out] at HH6
    go_wp2_with fail
    refine HH6.out.mono ?_
    rintro e w7 ⟨rfl, hb7⟩
    have HS7 := Lib.hid (HS6.out.below hb7)
    have HF7 := Lib.hid (HF6.out.same (Dk.Fr.below hb7))
    have HK7 := Lib.hid (HK6.out.below hb7)
    have HK07 := Lib.hid (HK06.out.below hb7)
    have HA8 := Lib.hid HS7.out.outs
    have HT7 := Lib.hid (there12 HS7.out)
    have hone := fr0_one
    have HZ := Lib.hid (show w7.setCells b.nb 12 fr0 = w7.setCells b.nb 12 [.bool false, .int .i64 0, .int .i64 0, .bool false, .int .i64 0, .int .i64 0, .slice none 0 0, .slice none 0 0, .slice none 0 0, .int .i64 0, .slice none 0 0, .slice none 0 0] from rfl)
    clear hb7 q3 e0
    have HF8 := Lib.hid (fr_setCells b.nb fr0 12 HF7.out (.inl (by simp)))
    have HK8 := Lib.hid (show Rg.Blk (w7.setCells b.nb 12 fr0) (w.heap.size + 1) _ _ from (HA8.out.fr.block (w.heap.size + 1) HK7.out.lt (fun hm => by have := HS.out.foot_lt _ hm; omega)).trans HK7.out)
    have HK08 := Lib.hid (show Rg.Blk (w7.setCells b.nb 12 fr0) w.heap.size _ _ from (HA8.out.fr.block w.heap.size HK07.out.lt (fun hm => by have := HS.out.foot_lt _ hm; omega)).trans HK07.out)
    go_upto_region 8 with (refine wpList_store_mid rfl 54 _ _ rfl b.nb 12 #[.bool false, .int .i64 0, .int .i64 0, .bool false, .int .i64 0, .int .i64 0, .slice none 0 0, .slice none 0 0, .slice none 0 0, .int .i64 0, .slice none 0 0, .slice none 0 0] rfl rfl HT7.out hin hone ?_; change wpList _ _ _ _ _ (w7.setCells b.nb 12 fr0); generalize w7.setCells b.nb 12 fr0 = w8 at *; have d10 : w8.cell? ⟨b.nb, 10, none⟩ = some (.int .i64 s.hT) := HA8.out.im.c10; have d11 : w8.cell? ⟨b.nb, 11, none⟩ = some (.int .i64 s.hV) := HA8.out.im.c11; have z10 : w8.frozen? ⟨b.nb, 10, none⟩ = false := HA8.out.im.free 10; have z11 : w8.frozen? ⟨b.nb, 11, none⟩ = false := HA8.out.im.free 11)
    have hf9 : Dk.Fr [b.nb] w8 ((w8.setCell ⟨b.nb, 10, none⟩ (.int .i64 tt)).setCell ⟨b.nb, 11, none⟩ (.int .i64 tv)) := ((Dk.Fr.refl _ _).setCell _ (.inl (by simp)) _).setCell _ (.inl (by simp)) _
    have HA9 := Lib.hid (HA8.out.then (HA8.out.im.told tt tv))
    have HF9 := Lib.hid (HF8.out.same hf9)
    have hbn := HS.out.blk.lt
    have HK9 := Lib.hid (show Rg.Blk ((w8.setCell ⟨b.nb, 10, none⟩ (.int .i64 tt)).setCell ⟨b.nb, 11, none⟩ (.int .i64 tv)) (w.heap.size + 1) _ _ from (hf9.block (w.heap.size + 1) HK8.out.lt (fun hm => by simp at hm; omega)).trans HK8.out)
    have HK09 := Lib.hid (show Rg.Blk ((w8.setCell ⟨b.nb, 10, none⟩ (.int .i64 tt)).setCell ⟨b.nb, 11, none⟩ (.int .i64 tv)) w.heap.size _ _ from (hf9.block w.heap.size HK08.out.lt (fun hm => by simp at hm; omega)).trans HK08.out)
    clear hf9 d10 d11 z10 z11 hbn
    have HA9 := Lib.hid (show Aft lo w7 ((w8.setCell ⟨b.nb, 10, none⟩ (.int .i64 tt)).setCell ⟨b.nb, 11, none⟩ (.int .i64 tv)) b { b with rv := .slice none 0 0 } { s with hT := tt, hV := tv, frm := 0, rd := [] } from HA9.out)
    have hs9 : w7.heap.size ≤ w8.heap.size := HA8.out.fr.size
    have HLT := Lib.hid (show ∀ i ∈ ({ b with rv := .slice none 0 0 } : PB).foot, i < w.heap.size from fun i hi => HS.out.foot_lt i (foot_nil b i hi))
    have HLR := Lib.hid (show ∀ i ∈ ({ b with rv := .slice none 0 0 } : PB).ro, i < w.heap.size from HS.out.rl)
    clear hs9
    generalize (w8.setCell ⟨b.nb, 10, none⟩ (.int .i64 tt)).setCell ⟨b.nb, 11, none⟩ (.int .i64 tv) = w9 at *
    have l1 := rangeB (cs := [.bool true, .int .i64 tt, .int .i64 tv, .bool false, .int .i64 0, .int .i64 0, .slice none 0 0, .slice none 0 0, .slice none 0 0, .int .i64 s.frm, .slice none 0 0, .slice RA n rc]) HK9.out
    have HTR := Lib.hid (thereB HK09.out 12 rfl)
    have hone1 : ([.bool true, .int .i64 tt, .int .i64 tv, .bool false, .int .i64 0, .int .i64 0, .slice none 0 0, .slice none 0 0, .slice none 0 0, .int .i64 s.frm, .slice none 0 0, .slice RA n rc].toArray : Array Value).all (·.oneCell') = true := by simp [Value.oneCell']
    have HX := Lib.hid (HA9.out.im.apart (w := w) (R := w.heap.size) (show Dk.Fr [w.heap.size] w9 (w9.setCells w.heap.size 0 [.bool true, .int .i64 tt, .int .i64 tv, .bool false, .int .i64 0, .int .i64 0, .slice none 0 0, .slice none 0 0, .slice none 0 0, .int .i64 s.frm, .slice none 0 0, .slice RA n rc]) from fr_setCells _ _ _ (Dk.Fr.refl _ _) (.inl (by simp))) (Nat.le_refl _) HLT.out HLR.out HK09.out (by decide))
    have HFX := Lib.hid (show Dk.Fr [b.nb] w (w9.setCells w.heap.size 0 [.bool true, .int .i64 tt, .int .i64 tv, .bool false, .int .i64 0, .int .i64 0, .slice none 0 0, .slice none 0 0, .slice none 0 0, .int .i64 s.frm, .slice none 0 0, .slice RA n rc]) from fr_setCells _ _ _ HF9.out (.inr (Nat.le_refl _)))
    have HRX := Lib.hid (show (w9.setCells w.heap.size 0 [.bool true, .int .i64 tt, .int .i64 tv, .bool false, .int .i64 0, .int .i64 0, .slice none 0 0, .slice none 0 0, .slice none 0 0, .int .i64 s.frm, .slice none 0 0, .slice RA n rc]).rangeAt w.heap.size 0 [.bool true, .int .i64 tt, .int .i64 tv, .bool false, .int .i64 0, .int .i64 0, .slice none 0 0, .slice none 0 0, .slice none 0 0, .int .i64 s.frm, .slice none 0 0, .slice RA n rc] from World.rangeAt_setCells_same _ _ _ _ (by exact HTR.out))
    go_wp2_with (first | refine wpList_load_mid rfl 54 _ rfl (w.heap.size + 1) 0 rfl _ _ l1 hun rfl hin ?_ | (refine wpList_store_mid rfl 54 _ _ rfl w.heap.size 0 [.bool true, .int .i64 tt, .int .i64 tv, .bool false, .int .i64 0, .int .i64 0, .slice none 0 0, .slice none 0 0, .slice none 0 0, .int .i64 s.frm, .slice none 0 0, .slice RA n rc].toArray rfl rfl HTR.out hin hone1 ?_; change wpList _ _ _ _ _ (w9.setCells w.heap.size 0 [.bool true, .int .i64 tt, .int .i64 tv, .bool false, .int .i64 0, .int .i64 0, .slice none 0 0, .slice none 0 0, .slice none 0 0, .int .i64 s.frm, .slice none 0 0, .slice RA n rc]); generalize w9.setCells w.heap.size 0 [.bool true, .int .i64 tt, .int .i64 tv, .bool false, .int .i64 0, .int .i64 0, .slice none 0 0, .slice none 0 0, .slice none 0 0, .int .i64 s.frm, .slice none 0 0, .slice RA n rc] = wx at *))
    refine bodyPost_ret (results_cell_mid rfl _ _ w.heap.size _ _ rfl HRX.out hun rfl hin) rfl ?_
    exact outIs_mk true tt tv HRV.out HTT.out HTV.out HX.out HFX.out
  | false =>
    have HK6 := Lib.hid HK15.out
    have HK06 := Lib.hid HK05.out
    have HS6 := Lib.hid HS5.out
    have HF6 := Lib.hid (show Dk.Fr [b.nb] w w5 from Dk.Fr.below HB5.out)
    obtain ⟨w6, hw6⟩ : ∃ w6, w6 = w5 := ⟨_, rfl⟩
    rw [← hw6] at HK6 HK06 HS6 HF6 ⊢
    clear hw6
    have q3 := HK6.out.cell 3 (.bool false) rfl
    have e0 := HS6.out.c0
    have HH6 := Lib.hid (El.hard_any b.p s.e _ HS6.out.el)
    rw [HTT.out, HTV.out] at HH6
    go_wp2_with fail
    refine HH6.out.mono ?_
    rintro e w7 ⟨rfl, hb7⟩
    have HS7 := Lib.hid (HS6.out.below hb7)
    have HF7 := Lib.hid (HF6.out.same (Dk.Fr.below hb7))
    have HK7 := Lib.hid (HK6.out.below hb7)
    have HK07 := Lib.hid (HK06.out.below hb7)
    have HA8 := Lib.hid HS7.out.outs
    have HT7 := Lib.hid (there12 HS7.out)
    have hone := fr0_one
    have HZ := Lib.hid (show w7.setCells b.nb 12 fr0 = w7.setCells b.nb 12 [.bool false, .int .i64 0, .int .i64 0, .bool false, .int .i64 0, .int .i64 0, .slice none 0 0, .slice none 0 0, .slice none 0 0, .int .i64 0, .slice none 0 0, .slice none 0 0] from rfl)
    clear hb7 q3 e0
    have HF8 := Lib.hid (fr_setCells b.nb fr0 12 HF7.out (.inl (by simp)))
    have HK8 := Lib.hid (show Rg.Blk (w7.setCells b.nb 12 fr0) (w.heap.size + 1) _ _ from (HA8.out.fr.block (w.heap.size + 1) HK7.out.lt (fun hm => by have := HS.out.foot_lt _ hm; omega)).trans HK7.out)
    have HK08 := Lib.hid (show Rg.Blk (w7.setCells b.nb 12 fr0) w.heap.size _ _ from (HA8.out.fr.block w.heap.size HK07.out.lt (fun hm => by have := HS.out.foot_lt _ hm; omega)).trans HK07.out)
    go_upto_region 8 with (refine wpList_store_mid rfl 54 _ _ rfl b.nb 12 #[.bool false, .int .i64 0, .int .i64 0, .bool false, .int .i64 0, .int .i64 0, .slice none 0 0, .slice none 0 0, .slice none 0 0, .int .i64 0, .slice none 0 0, .slice none 0 0] rfl rfl HT7.out hin hone ?_; change wpList _ _ _ _ _ (w7.setCells b.nb 12 fr0); generalize w7.setCells b.nb 12 fr0 = w8 at *; have d10 : w8.cell? ⟨b.nb, 10, none⟩ = some (.int .i64 s.hT) := HA8.out.im.c10; have d11 : w8.cell? ⟨b.nb, 11, none⟩ = some (.int .i64 s.hV) := HA8.out.im.c11; have z10 : w8.frozen? ⟨b.nb, 10, none⟩ = false := HA8.out.im.free 10; have z11 : w8.frozen? ⟨b.nb, 11, none⟩ = false := HA8.out.im.free 11)
    have hf9 : Dk.Fr [b.nb] w8 ((w8.setCell ⟨b.nb, 10, none⟩ (.int .i64 tt)).setCell ⟨b.nb, 11, none⟩ (.int .i64 tv)) := ((Dk.Fr.refl _ _).setCell _ (.inl (by simp)) _).setCell _ (.inl (by simp)) _
    have HA9 := Lib.hid (HA8.out.then (HA8.out.im.told tt tv))
    have HF9 := Lib.hid (HF8.out.same hf9)
    have hbn := HS.out.blk.lt
    have HK9 := Lib.hid (show Rg.Blk ((w8.setCell ⟨b.nb, 10, none⟩ (.int .i64 tt)).setCell ⟨b.nb, 11, none⟩ (.int .i64 tv)) (w.heap.size + 1) _ _ from (hf9.block (w.heap.size + 1) HK8.out.lt (fun hm => by simp at hm; omega)).trans HK8.out)
    have HK09 := Lib.hid (show Rg.Blk ((w8.setCell ⟨b.nb, 10, none⟩ (.int .i64 tt)).setCell ⟨b.nb, 11, none⟩ (.int .i64 tv)) w.heap.size _ _ from (hf9.block w.heap.size HK08.out.lt (fun hm => by simp at hm; omega)).trans HK08.out)
    clear hf9 d10 d11 z10 z11 hbn
    have HA9 := Lib.hid (show Aft lo w7 ((w8.setCell ⟨b.nb, 10, none⟩ (.int .i64 tt)).setCell ⟨b.nb, 11, none⟩ (.int .i64 tv)) b { b with rv := .slice none 0 0 } { s with hT := tt, hV := tv, frm := 0, rd := [] } from HA9.out)
    have hs9 : w7.heap.size ≤ w8.heap.size := HA8.out.fr.size
    have HLT := Lib.hid (show ∀ i ∈ ({ b with rv := .slice none 0 0 } : PB).foot, i < w.heap.size from fun i hi => HS.out.foot_lt i (foot_nil b i hi))
    have HLR := Lib.hid (show ∀ i ∈ ({ b with rv := .slice none 0 0 } : PB).ro, i < w.heap.size from HS.out.rl)
    clear hs9
    generalize (w8.setCell ⟨b.nb, 10, none⟩ (.int .i64 tt)).setCell ⟨b.nb, 11, none⟩ (.int .i64 tv) = w9 at *
    have l1 := rangeB (cs := [.bool false, .int .i64 0, .int .i64 0, .bool false, .int .i64 0, .int .i64 0, .slice none 0 0, .slice none 0 0, .slice none 0 0, .int .i64 s.frm, .slice none 0 0, .slice RA n rc]) HK9.out
    have HTR := Lib.hid (thereB HK09.out 12 rfl)
    have hone1 : ([.bool false, .int .i64 0, .int .i64 0, .bool false, .int .i64 0, .int .i64 0, .slice none 0 0, .slice none 0 0, .slice none 0 0, .int .i64 s.frm, .slice none 0 0, .slice RA n rc].toArray : Array Value).all (·.oneCell') = true := by simp [Value.oneCell']
    have HX := Lib.hid (HA9.out.im.apart (w := w) (R := w.heap.size) (show Dk.Fr [w.heap.size] w9 (w9.setCells w.heap.size 0 [.bool false, .int .i64 0, .int .i64 0, .bool false, .int .i64 0, .int .i64 0, .slice none 0 0, .slice none 0 0, .slice none 0 0, .int .i64 s.frm, .slice none 0 0, .slice RA n rc]) from fr_setCells _ _ _ (Dk.Fr.refl _ _) (.inl (by simp))) (Nat.le_refl _) HLT.out HLR.out HK09.out (by decide))
    have HFX := Lib.hid (show Dk.Fr [b.nb] w (w9.setCells w.heap.size 0 [.bool false, .int .i64 0, .int .i64 0, .bool false, .int .i64 0, .int .i64 0, .slice none 0 0, .slice none 0 0, .slice none 0 0, .int .i64 s.frm, .slice none 0 0, .slice RA n rc]) from fr_setCells _ _ _ HF9.out (.inr (Nat.le_refl _)))
    have HRX := Lib.hid (show (w9.setCells w.heap.size 0 [.bool false, .int .i64 0, .int .i64 0, .bool false, .int .i64 0, .int .i64 0, .slice none 0 0, .slice none 0 0, .slice none 0 0, .int .i64 s.frm, .slice none 0 0, .slice RA n rc]).rangeAt w.heap.size 0 [.bool false, .int .i64 0, .int .i64 0, .bool false, .int .i64 0, .int .i64 0, .slice none 0 0, .slice none 0 0, .slice none 0 0, .int .i64 s.frm, .slice none 0 0, .slice RA n rc] from World.rangeAt_setCells_same _ _ _ _ (by exact HTR.out))
    go_wp2_with (first | refine wpList_load_mid rfl 54 _ rfl (w.heap.size + 1) 0 rfl _ _ l1 hun rfl hin ?_ | (refine wpList_store_mid rfl 54 _ _ rfl w.heap.size 0 [.bool false, .int .i64 0, .int .i64 0, .bool false, .int .i64 0, .int .i64 0, .slice none 0 0, .slice none 0 0, .slice none 0 0, .int .i64 s.frm, .slice none 0 0, .slice RA n rc].toArray rfl rfl HTR.out hin hone1 ?_; change wpList _ _ _ _ _ (w9.setCells w.heap.size 0 [.bool false, .int .i64 0, .int .i64 0, .bool false, .int .i64 0, .int .i64 0, .slice none 0 0, .slice none 0 0, .slice none 0 0, .int .i64 s.frm, .slice none 0 0, .slice RA n rc]); generalize w9.setCells w.heap.size 0 [.bool false, .int .i64 0, .int .i64 0, .bool false, .int .i64 0, .int .i64 0, .slice none 0 0, .slice none 0 0, .slice none 0 0, .int .i64 s.frm, .slice none 0 0, .slice RA n rc] = wx at *))
    refine bodyPost_ret (results_cell_mid rfl _ _ w.heap.size _ _ rfl HRX.out hun rfl hin) rfl ?_
    exact outIs_mk false 0 0 HRV.out HTT.out HTV.out HX.out HFX.out
end Go.Proofs.YtnhcbampojpgfaaGreat.Rf
