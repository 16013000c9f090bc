/-
  Several texts in one: Layer 12: copies of a group and of a snapshot, whose slices lie in blocks of numbers. Conditions: as each theorem states. Layer 12: a node as it is made, in any group: its parts, one behind the other in memory, make the node. Conditions: as the theorem states.
-/
import Derived.Test.YtjadfpcipicckaaGreatJRfL
import Derived.Test.YtjadfpcipicckaaGreatJRfU
import Derived.Test.YtjadfpcipicckaaGreatJRfP
namespace Go.Proofs.YtjadfpcipicckaaGreat.Rf
open Go.RowKit Go.Shelf Go.Proofs.YtjadfpcipicckaaGreat.Fld
open Go.Proofs.YtjadfpcipicckaaGreat.Qu (RdI)
set_option linter.unusedVariables false

/-- a group that shares no memory, nil having no capacity -/
def CgTs (w : World) (vs ls : List Int) (e : Ending) (w' : World) : Prop := ∃ A1 c1 A2 c2, e = .returned (.agg #[.slice A1 vs.length c1, .slice A2 ls.length c2]) ∧ (A1 = none → c1 = 0) ∧ (A2 = none → c2 = 0) ∧ Qu.RdT w' A1 vs.length vs ∧ Qu.RdT w' A2 ls.length ls ∧ (∀ a, A1 = some a → w.heap.size ≤ a.block ∧ a.block < w'.heap.size) ∧ (∀ a, A2 = some a → w.heap.size ≤ a.block ∧ a.block < w'.heap.size) ∧ Below w.heap.size w w'
set_option maxRecDepth 100000 in
set_option maxHeartbeats 3200000 in
theorem cgroupT_any (VA : Option Addr) (vc : Nat) (vs : List Int) (LA : Option Addr) (lc : Nat) (ls : List Int) (w : World) (hv : RdI w VA vs.length vs) (hl : RdI w LA ls.length ls) (h1 : vs.length ≤ 1000) (h2 : ls.length ≤ 1000) :
    Calls Tryz.prog 46 #[Qu.grpV VA vs.length vc LA ls.length lc] w (CgTs w vs ls) := by
  have hb0 : Below w.heap.size w ((w.alloc (.cells #[.slice VA vs.length vc, .slice LA ls.length lc] 26)).alloc (.cells #[.slice none 0 0, .slice none 0 0] 26)) := (Qu.alloc_below w _).trans ((Qu.alloc_below (w.alloc (.cells #[.slice VA vs.length vc, .slice LA ls.length lc] 26)) _).mono (Qu.alloc_below w _).size)
  have hk1 := (Qu.Blk.new w #[.slice VA vs.length vc, .slice LA ls.length lc] 26).past (.cells #[.slice none 0 0, .slice none 0 0] 26)
  have hk2 := Qu.Blk.new (w.alloc (.cells #[.slice VA vs.length vc, .slice LA ls.length lc] 26)) #[.slice none 0 0, .slice none 0 0] 26
  rw [show (w.alloc (.cells #[.slice VA vs.length vc, .slice LA ls.length lc] 26)).heap.size = w.heap.size + 1 by simp] at hk2
  have HB0 := Lib.hid hb0
  have HK1 := Lib.hid hk1
  have HK2 := Lib.hid hk2
  have c0 := hk1.cell 0 (.slice VA vs.length vc) rfl
  have c1 := hk1.cell 1 (.slice LA ls.length lc) rfl
  have z0 := hk2.cell 0 (.slice none 0 0) rfl
  have z1 := hk2.cell 1 (.slice none 0 0) rfl
  have HV := Lib.hid (fun W (hW : Below w.heap.size w W) => El.cloneI_any VA vs.length vc vs W (hv.below hW) h1)
  have HL := Lib.hid (fun W (hW : Below w.heap.size w W) => El.cloneI_any LA ls.length lc ls W (hl.below hW) h2)
  have HN1 := Lib.hid (show vs.length ≤ 1000000 by omega)
  have HN2 := Lib.hid (show ls.length ≤ 1000000 by omega)
  unfold Qu.grpV CgTs
  generalize hwb : (w.alloc (.cells #[.slice VA vs.length vc, .slice LA ls.length lc] 26)).alloc (.cells #[.slice none 0 0, .slice none 0 0] 26) = wb at *
  have HDW := Lib.hid (El.below_d1 wb)
  subst hwb
  clear hb0 hk1 hk2 hv hl
  go_enter Tryz.func46, Tryz.ntmps46
  go_wp2_with fail
  go_region_held3 (fun w' => w'.cell? ⟨w.heap.size, 0, none⟩ = some (.slice VA vs.length vc) ∧ w'.cell? ⟨w.heap.size, 1, none⟩ = some (.slice LA ls.length lc)) (first | exact ⟨by assumption, by assumption⟩ | go_keep) (first
    | (go_at_call 80; have _ := HO1; refine (HL.out _ (by first | exact HB1.out)).mono ?_; rintro e w2 ⟨v2, rfl, hO2⟩; obtain ⟨A2, k2, rfl, hr2, hn2, _⟩ := hO2.form (by exact HN2.out); have HO2 := Lib.hid hO2; have HR2 := Lib.hid hr2; have HN22 := Lib.hid hn2; have HBB2 := Lib.hid (HBB1.out.trans (hO2.1.mono HBB1.out.size)); have d0 := (HK1.out.below HBB2.out).cell 0 _ rfl; have d1 := (HK1.out.below HBB2.out).cell 1 _ rfl; have y0 := (HK2.out.below HBB2.out).cell 0 _ rfl; have y1 := (HK2.out.below HBB2.out).cell 1 _ rfl; have f0 := Qu.Blk.free (HK2.out.below HBB2.out) 0; have f1 := Qu.Blk.free (HK2.out.below HBB2.out) 1; clear hO2 hr2 hn2)
    | (go_at_call 80; refine (HV.out _ (by exact HB0.out.drew)).mono ?_; rintro e w1 ⟨v1, rfl, hO1⟩; obtain ⟨A1, k1, rfl, hr1, hn1, _⟩ := hO1.form (by exact HN1.out); have HO1 := Lib.hid hO1; have HR1 := Lib.hid hr1; have HN11 := Lib.hid hn1; have HBB1 := Lib.hid (HDW.out.trans hO1.1); have HB1 := Lib.hid (HB0.out.trans (HBB1.out.mono HB0.out.size)); have c0 := (HK1.out.below HBB1.out).cell 0 _ rfl; have c1 := (HK1.out.below HBB1.out).cell 1 _ rfl; clear hO1 hr1 hn1))
  all_goals
    go_wp2
    have hK := HK2.out.below HBB2.out
    have hG := heap_setCell_same _ (w.heap.size + 1) 1 _ _ (.slice A2 ls.length k2) (heap_setCell_same w2 (w.heap.size + 1) 0 _ _ (.slice A1 vs.length k1) hK)
    refine bodyPost_ret (results_cell_row rfl _ _ (w.heap.size + 1) _ #[.slice A1 vs.length k1, .slice A2 ls.length k2] (0, 0) _ rfl hG Tryz.underlying26 rfl (by kernel_rfl)) rfl ?_
    have hf : Dk.Fr [w.heap.size + 1] w2 ((w2.setCell ⟨w.heap.size + 1, 0, none⟩ (.slice A1 vs.length k1)).setCell ⟨w.heap.size + 1, 1, none⟩ (.slice A2 ls.length k2)) := ((Dk.Fr.refl _ _).setCell _ (.inl (by simp)) _).setCell _ (.inl (by simp)) _
    have hs0 : ((w.alloc (.cells #[.slice VA vs.length vc, .slice LA ls.length lc] 26)).alloc (.cells #[.slice none 0 0, .slice none 0 0] 26)).drew.heap.size = w.heap.size + 2 := by show ((w.alloc (.cells #[.slice VA vs.length vc, .slice LA ls.length lc] 26)).alloc (.cells #[.slice none 0 0, .slice none 0 0] 26)).heap.size = _; simp
    have ho1 := El.ownI_lt HO1.out
    have ho2 := El.ownI_lt HO2.out
    have hs1 := HO1.out.1.size
    have hs2 := HO2.out.1.size
    have hs3 := hf.size
    have hni : NotI w2 [w.heap.size + 1] := fun i hi cs hb => by
      obtain rfl : i = w.heap.size + 1 := by simpa using hi
      exact Rg.Blk.ne hK hb (by decide) rfl
    have t1 : Qu.RdT w2 A1 vs.length vs := (show Qu.RdT _ A1 vs.length vs from ⟨HR1.out, HO1.out.typed⟩).below HO2.out.1
    have t2 : Qu.RdT w2 A2 ls.length ls := ⟨HR2.out, HO2.out.typed⟩
    refine ⟨A1, k1, A2, k2, rfl, HN11.out, HN22.out, rdT_fr t1 hf hni, rdT_fr t2 hf hni, ?_, ?_, Dk.Fr.to_below (HB0.out.trans (HBB2.out.mono HB0.out.size)) hf (by intro i hi; simp at hi; omega)⟩
    · intro a ha
      have := ho1 a ha
      omega
    · intro a ha
      have := ho2 a ha
      omega
/-- a snapshot that shares no memory -/
structure CsT (w w' : World) (vs ls ds : List Int) (A1 : Option Addr) (c1 : Nat) (A2 : Option Addr) (c2 : Nat) (A3 : Option Addr) (c3 : Nat) : Prop where
  n2 : A2 = none → c2 = 0
  r1 : Qu.RdT w' A1 vs.length vs
  r2 : Qu.RdT w' A2 ls.length ls
  b1 : ∀ a, A1 = some a → w.heap.size ≤ a.block ∧ a.block < w'.heap.size
  b2 : ∀ a, A2 = some a → w.heap.size ≤ a.block ∧ a.block < w'.heap.size
  bel : Below w.heap.size w w'
def CsTs (w : World) (i t : Int) (vs ls ds : List Int) (e : Ending) (w' : World) : Prop := ∃ A1 c1 A2 c2 A3 c3, e = .returned (snV i t A1 vs.length c1 A2 ls.length c2 A3 ds.length c3) ∧ CsT w w' vs ls ds A1 c1 A2 c2 A3 c3
set_option maxRecDepth 100000 in
set_option maxHeartbeats 1600000 in
theorem csnapT_any (i t : Int) (VA : Option Addr) (vc : Nat) (vs : List Int) (LA : Option Addr) (lc : Nat) (ls : List Int) (DA : Option Addr) (dc : Nat) (ds : List Int) (w : World) (hv : RdI w VA vs.length vs) (hl : RdI w LA ls.length ls) (h1 : vs.length ≤ 1000) (h2 : ls.length ≤ 1000) (hd : Fld.Rd w DA ds.length ds) (hz : DA = none → dc = 0) (hdl : ds.length ≤ 140737488351232) :
    Calls Tryz.prog 19 #[snV i t VA vs.length vc LA ls.length lc DA ds.length dc] w (CsTs w i t vs ls ds) := by
  have hb0 : Below w.heap.size w ((w.alloc (.cells (snC i t VA vs.length vc LA ls.length lc DA ds.length dc) 29)).alloc (.cells (snC 0 0 none 0 0 none 0 0 none 0 0) 29)) := (Rg.alloc_below' w _).trans ((Rg.alloc_below' _ _).mono (Rg.alloc_below' w _).size)
  have hk1 := (Rg.Blk.new w (snC i t VA vs.length vc LA ls.length lc DA ds.length dc) 29).past (.cells (snC 0 0 none 0 0 none 0 0 none 0 0) 29)
  have hk2 := Rg.Blk.new (w.alloc (.cells (snC i t VA vs.length vc LA ls.length lc DA ds.length dc) 29)) (snC 0 0 none 0 0 none 0 0 none 0 0) 29
  rw [World.size_alloc] at hk2
  have HB0 := Lib.hid hb0
  have HK1 := Lib.hid hk1
  have HK2 := Lib.hid hk2
  have z2 := hk1.cell 2 (.slice VA vs.length vc) rfl
  have z3 := hk1.cell 3 (.slice LA ls.length lc) rfl
  have z4 := hk1.cell 4 (.slice DA ds.length dc) rfl
  have f2 := hk1.free 2
  have f3 := hk1.free 3
  have f4 := hk1.free 4
  have HG := Lib.hid (fun W (hW : Below w.heap.size w W) => cgroupT_any VA vc vs LA lc ls W (hv.below hW) (hl.below hW) h1 h2)
  have HD := Lib.hid (fun W (hW : Below w.heap.size w W) => Rg.clone8_any DA ds.length dc ds W (hd.below hW) hz (by omega))
  unfold Qu.grpV at HG
  unfold snV
  unfold snC at *
  generalize hvn : vs.length = vn at *
  generalize hln : ls.length = ln at *
  generalize hdn : ds.length = dn at *
  have HLN := Lib.hid (And.intro hvn (And.intro hln hdn))
  clear hb0 hk1 hk2 hv hl hd hz h1 h2 hvn hln hdn
  go_enter Tryz.func19, Tryz.ntmps19
  go_wp2_with fail
  generalize (w.alloc (.cells #[.int .i64 i, .int .i64 t, .slice VA vn vc, .slice LA ln lc, .slice DA dn dc] 29)).alloc (.cells #[.int .i64 0, .int .i64 0, .slice none 0 0, .slice none 0 0, .slice none 0 0] 29) = wb at *
  have HBd := Lib.hid (HB0.out.trans ((Below.refl wb.heap.size wb).drew.mono HB0.out.size))
  have HWD := Lib.hid (Below.refl wb.heap.size wb).drew
  go_region_with (first
    | (go_at_call 46; refine (HG.out _ (by exact HBd.out)).mono ?_; rintro e w1 ⟨A1, k1, A2, k2, he, n1, n2, r1, r2, b1, b2, hb⟩; have hx := HLN.out; rw [hx.1, hx.2.1] at he; subst he; have HB1 := Lib.hid (HBd.out.trans (hb.mono HBd.out.size)); have HW1 := Lib.hid (HWD.out.trans hb); have HP1 := Lib.hid (And.intro n2 (And.intro r1 (And.intro r2 (And.intro b1 b2)))); have y4 := (HK1.out.below HW1.out).cell 4 (.slice DA dn dc) rfl; clear n1 n2 r1 r2 b1 b2 hb hx)
    | (go_at_call 47; refine (HD.out _ (by exact HB1.out)).mono ?_; rintro e w2 ⟨v2, rfl, hO⟩; obtain ⟨A3, k3, hv3, _⟩ := hO.sl dn HLN.out.2.2; subst hv3; have HB2 := Lib.hid hO.1; have HW2 := Lib.hid (HW1.out.trans (hO.1.mono HW1.out.size)); have y2 := (HK1.out.below HW2.out).cell 2 (.slice VA vn vc) rfl; have y3 := (HK1.out.below HW2.out).cell 3 (.slice LA ln lc) rfl; have y4 := (HK1.out.below HW2.out).cell 4 (.slice DA dn dc) rfl; have f2 := (HK1.out.below HW2.out).free 2; have f3 := (HK1.out.below HW2.out).free 3; have f4 := (HK1.out.below HW2.out).free 4; clear hO))
  all_goals
    have hfr : Dk.Fr [w.heap.size] w2 (((w2.setCell ⟨w.heap.size, 2, none⟩ (.slice A1 vn k1)).setCell ⟨w.heap.size, 3, none⟩ (.slice A2 ln k2)).setCell ⟨w.heap.size, 4, none⟩ (.slice A3 dn k3)) := (((Dk.Fr.refl _ _).setCell _ (.inl (by simp)) _).setCell _ (.inl (by simp)) _).setCell _ (.inl (by simp)) _
    have HK13 := Lib.hid (Rg.Blk.set (Rg.Blk.set (Rg.Blk.set (HK1.out.below HW2.out) 2 (.slice A1 vn k1) (by show 2 < 5; omega)) 3 (.slice A2 ln k2) (by show 3 < 5; omega)) 4 (.slice A3 dn k3) (by show 4 < 5; omega))
    have HK23 := Lib.hid (show Rg.Blk (((w2.setCell ⟨w.heap.size, 2, none⟩ (.slice A1 vn k1)).setCell ⟨w.heap.size, 3, none⟩ (.slice A2 ln k2)).setCell ⟨w.heap.size, 4, none⟩ (.slice A3 dn k3)) (w.heap.size + 1) _ _ from (hfr.block (w.heap.size + 1) (HK2.out.below HW2.out).lt (by simp)).trans (HK2.out.below HW2.out))
    have HFR := Lib.hid hfr
    clear hfr y2 y3 y4 f2 f3 f4
    generalize ((w2.setCell ⟨w.heap.size, 2, none⟩ (.slice A1 vn k1)).setCell ⟨w.heap.size, 3, none⟩ (.slice A2 ln k2)).setCell ⟨w.heap.size, 4, none⟩ (.slice A3 dn k3) = w3 at *
    have l0 := HK13.out.cell 0 (.int .i64 i) rfl
    have l1 := HK13.out.cell 1 (.int .i64 t) rfl
    have l2 := HK13.out.cell 2 (.slice A1 vn k1) rfl
    have l3 := HK13.out.cell 3 (.slice A2 ln k2) rfl
    have l4 := HK13.out.cell 4 (.slice A3 dn k3) rfl
    have r0 := HK23.out.cell 0 (.int .i64 0) rfl
    have r1 := HK23.out.cell 1 (.int .i64 0) rfl
    have r2 := HK23.out.cell 2 (.slice none 0 0) rfl
    have r3 := HK23.out.cell 3 (.slice none 0 0) rfl
    have r4 := HK23.out.cell 4 (.slice none 0 0) rfl
    have s0 := HK23.out.free 0
    have s1 := HK23.out.free 1
    have s2 := HK23.out.free 2
    have s3 := HK23.out.free 3
    have s4 := HK23.out.free 4
    go_wp2
    have k9 := Rg.Blk.set (Rg.Blk.set (Rg.Blk.set (Rg.Blk.set (Rg.Blk.set HK23.out 0 (.int .i64 i) (by show 0 < 5; omega)) 1 (.int .i64 t) (by show 1 < 5; omega)) 2 (.slice A1 vn k1) (by show 2 < 5; omega)) 3 (.slice A2 ln k2) (by show 3 < 5; omega)) 4 (.slice A3 dn k3) (by show 4 < 5; omega)
    refine bodyPost_ret (results_cell_row rfl _ _ (w.heap.size + 1) _ _ (0, 0) _ rfl k9 Tryz.underlying29 rfl (by kernel_rfl)) rfl ?_
    have hx := HLN.out
    have hf9 : Dk.Fr [w.heap.size, w.heap.size + 1] w2 (((((w3.setCell ⟨w.heap.size + 1, 0, none⟩ (.int .i64 i)).setCell ⟨w.heap.size + 1, 1, none⟩ (.int .i64 t)).setCell ⟨w.heap.size + 1, 2, none⟩ (.slice A1 vn k1)).setCell ⟨w.heap.size + 1, 3, none⟩ (.slice A2 ln k2)).setCell ⟨w.heap.size + 1, 4, none⟩ (.slice A3 dn k3)) := (((((HFR.out.mono (fun i hi => by simp at hi; simp [hi])).setCell _ (.inl (by simp)) _).setCell _ (.inl (by simp)) _).setCell _ (.inl (by simp)) _).setCell _ (.inl (by simp)) _).setCell _ (.inl (by simp)) _
    obtain ⟨p1, p2, p3, p4, p5⟩ := HP1.out
    have hs1 : w.heap.size + 2 ≤ wb.heap.size := by have := HK2.out.lt; omega
    have q1 := HW1.out.size
    have q2 := HB2.out.size
    have q3 := hf9.size
    have hwd : wb.drew.heap.size = wb.heap.size := rfl
    have hni : NotI w2 [w.heap.size, w.heap.size + 1] := fun i hi cs hb => by
      simp only [List.mem_cons, List.not_mem_nil, or_false] at hi
      rcases hi with rfl | rfl
      · exact Rg.Blk.ne (HK1.out.below HW2.out) hb (by decide) rfl
      · exact Rg.Blk.ne (HK2.out.below HW2.out) hb (by decide) rfl
    refine ⟨A1, k1, A2, k2, A3, k3, by rw [hx.1, hx.2.1, hx.2.2]; rfl, ⟨p1, rdT_fr (p2.below HB2.out) hf9 hni, rdT_fr (p3.below HB2.out) hf9 hni, fun a ha => ?_, fun a ha => ?_, Dk.Fr.to_below (HB0.out.trans (HW2.out.mono HB0.out.size)) hf9 (by intro i hi; simp at hi; omega)⟩⟩
    · have := p4 a ha; have := HB0.out.size; omega
    · have := p5 a ha; have := HB0.out.size; omega
end Go.Proofs.YtjadfpcipicckaaGreat.Rf

namespace Go.Proofs.YtjadfpcipicckaaGreat.Rf
open Go.RowKit Go.Shelf Go.Proofs.YtjadfpcipicckaaGreat.Fld
open Go.Proofs.YtjadfpcipicckaaGreat.Qu (RdI)
set_option linter.unusedVariables false

theorem grp_few {vs ls : List Int} (h : Qu.grpOk vs ls = true) : vs.length ≤ 1000 ∧ ls.length ≤ 1000 := by
  obtain ⟨_, h1, h2, _⟩ := (Qu.grpOk_iff vs ls).1 h
  have a := Qu.upN_len vs 0 h1 (by omega)
  have b := Qu.upN_len ls 0 h2 (by omega)
  omega
def fb0 (nb : Nat) (p : El.Pl) (g : Nat) (v : Value) (xs : List Rg.EA) (A1 : Option Addr) (n1 c1 : Nat) (A2 : Option Addr) (n2 c2 : Nat) (A3 : Option Addr) (dn c3 : Nat) : FB := ⟨nb, p, g, v, xs, A1, n1, c1, A2, n2, c2, A3, dn, c3, .slice none 0 0, []⟩
def fs0 (id hT hV sI sT pat win : Int) (vs ls : List Int) (l : List Rg.En) : FS := ⟨El.st0 id hT hV vs ls pat, Rg.stAdd (Rg.st0 sI sT) l, win, sI, sT, hT, hV⟩
theorem fo_made {w w3 w4 w5 w6 : World} {id hT hV sI sT pat win : Int} {vs ls : List Int} {dn : Nat} {l : List Rg.En} {p : El.Pl} {g : Nat} {v : Value} {xs : List Rg.EA} {A1 A2 A3 : Option Addr} {c1 c2 c3 : Nat} {ds : List Int}
    (h3 : Below w.heap.size w w3) (he : El.Im w3 p (El.st0 id hT hV vs ls pat)) (hp : ∀ i ∈ p.all, w.heap.size ≤ i ∧ i < w3.heap.size)
    (h4 : Below w3.heap.size w3 w4) (hg : w3.heap.size ≤ g) (h5 : Rg.Done w.heap.size w4 w5 g (.slice none 0 0) (Rg.stAdd (Rg.st0 sI sT) l) v xs) (h35 : Below w3.heap.size w3 w5)
    (h6 : CsT w5 w6 vs ls ds A1 c1 A2 c2 A3 c3) (hfew : xs.length ≤ 1000000) :
    Fo w.heap.size (w6.alloc (.cells (foR (fb0 w6.heap.size p g v xs A1 vs.length c1 A2 ls.length c2 A3 dn c3) (fs0 id hT hV sI sT pat win vs ls l)) 60)) (fb0 w6.heap.size p g v xs A1 vs.length c1 A2 ls.length c2 A3 dn c3) (fs0 id hT hV sI sT pat win vs ls l) := by
  have hal := Rg.alloc_below' w6 (.cells (foR (fb0 w6.heap.size p g v xs A1 vs.length c1 A2 ls.length c2 A3 dn c3) (fs0 id hT hV sI sT pat win vs ls l)) 60)
  have h67 := h6.bel.trans (hal.mono h6.bel.size)
  have s3 := h3.size
  have s4 := h4.size
  have s5 := h35.size
  have s45 := h5.fr.size
  have s6 := h6.bel.size
  have hsz : (w6.alloc (.cells (foR (fb0 w6.heap.size p g v xs A1 vs.length c1 A2 ls.length c2 A3 dn c3) (fs0 id hT hV sI sT pat win vs ls l)) 60)).heap.size = w6.heap.size + 1 := by simp
  have hgl := Rg.Blk.lt h5.im.blk
  have hvl := fun i hi => (Rg.row_lo h5.im.row i hi)
  have hv4 : ∀ i, v.ownBlock = some i → w4.heap.size ≤ i ∧ i < w5.heap.size := by
    intro i hi
    refine ⟨?_, (hvl i hi).2⟩
    rcases h5.at' i hi with h | h
    · simp [Value.ownBlock] at h
    · exact h
  have hpg := hp p.g (by simp [El.Pl.all])
  have hpb := hp p.b (by simp [El.Pl.all])
  refine ⟨Qu.Blk.new w6 _ _, (he.below h35).below h67, h5.im.below h67, Rg.row_nil _ _ _ _, ⟨vs, ls, h6.r1.below hal, h6.r2.below hal⟩, (fun t ht => by cases ht), ?_, ?_, (fun t ht => by cases ht), hfew, by show 0 ≤ 1000000; omega, ?_⟩
  · intro i hi
    have := hp i hi
    refine ⟨by omega, ?_, ?_, ?_, ?_⟩
    · show i ≠ w6.heap.size
      omega
    · show i ≠ g
      omega
    · intro h
      have := hv4 i h
      omega
    · intro h
      have h' : (Value.slice none 0 0).ownBlock = some i := h
      simp [Value.ownBlock] at h'
  · intro i hi
    rcases fmem.1 hi with h | h | h | h | h | h
    · have : i = w6.heap.size := h
      omega
    · have : i = p.g := h
      omega
    · have : i = p.b := h
      omega
    · have : i = g := h
      omega
    · have := hv4 i h
      omega
    · have h' : (Value.slice none 0 0).ownBlock = some i := h
      simp [Value.ownBlock] at h'
  · show (0 : Int) ≠ 3
    omega
end Go.Proofs.YtjadfpcipicckaaGreat.Rf
