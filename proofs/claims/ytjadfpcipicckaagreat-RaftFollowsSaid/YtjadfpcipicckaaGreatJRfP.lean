/-
  Several texts in one: Layer 12: New, of a node that is alone in its group. Conditions: the snapshot is valid, its group is the node alone; the entries follow it, and none of them is a change. Layer 12: New, of a node that is alone in its group: the walk. Conditions: as in RfP; what comes in can be read.
-/
import Derived.Test.YtjadfpcipicckaaGreatJRfL
namespace Go.Proofs.YtjadfpcipicckaaGreat.Rf
open Go.RowKit Go.Shelf Go.Proofs.YtjadfpcipicckaaGreat.Fld
open Go.Proofs.YtjadfpcipicckaaGreat.Qu (RdI)
set_option linter.unusedVariables false

/-- a node as it is made -/
def new0 (id hT hV sI sT pat win : Int) (l : List Rg.En) : AS := ⟨El.st0 id hT hV [id] [] pat, Rg.stAdd (Rg.st0 sI sT) l, win, sI, sT, hT, hV, 0, []⟩
structure NewOk (id hT hV sI sT pat win : Int) (dn : Nat) (l : List Rg.En) : Prop where
  el : El.newOk id hT hV [id] [] pat = true
  i : Rg.okN sI = true
  t : Rg.okN sT = true
  dn : dn ≤ 60000
  win : 1 ≤ win ∧ win ≤ 64
  add : Rg.addC (Rg.st0 sI sT) l = 0
  kind : ∀ x ∈ l, x.kind ≠ 2
  few : l.length ≤ 1000000
theorem new0_grp {id hT hV sI sT pat win : Int} {dn : Nat} {l : List Rg.En} (h : NewOk id hT hV sI sT pat win dn l) : Qu.grpOk [id] [] = true := by
  have := h.el
  simp only [El.newOk, Bool.and_eq_true] at this
  exact this.2.2.1
theorem new0_es {id hT hV sI sT pat win : Int} {dn : Nat} {l : List Rg.En} (h : NewOk id hT hV sI sT pat win dn l) : (Rg.stAdd (Rg.st0 sI sT) l).es = l ∧ (Rg.stAdd (Rg.st0 sI sT) l).base = sI := by
  have ha := h.add
  unfold Rg.addC at ha
  unfold Rg.stAdd
  by_cases h1 : Rg.okL l = true
  · by_cases h2 : Rg.fol l (Rg.st0 sI sT).last (Rg.st0 sI sT).lt = true
    · rw [if_pos ⟨h1, h2⟩]
      exact ⟨rfl, rfl⟩
    · rw [if_pos h1, if_neg h2] at ha; cases ha
  · rw [if_neg h1] at ha; cases ha
/-- its parts, one behind the other in memory, make the node -/
theorem al_made {w w3 w4 w5 w6 : World} {id hT hV sI sT pat win : Int} {dn : Nat} {l : List Rg.En} (ho : NewOk id hT hV sI sT pat win dn l) {p : El.Pl} {g : Nat} {v : Value} {xs : List Rg.EA} {A1 A2 A3 : Option Addr} {c1 c2 c3 : Nat} {ds : List Int} (hdn : ds.length = dn)
    (h3 : Below w.heap.size w w3) (he : El.Im w3 p (El.st0 id hT hV [id] [] pat)) (hp : ∀ i ∈ p.all, w.heap.size ≤ i ∧ i < w3.heap.size)
    (h4 : Below w3.heap.size w3 w4) (hg : w3.heap.size ≤ g) (h5 : Rg.Done w.heap.size w4 w5 g (.slice none 0 0) (Rg.stAdd (Rg.st0 sI sT) l) v xs) (h35 : Below w3.heap.size w3 w5)
    (h6 : CsP w5 w6 [id] [] ds A1 c1 A2 c2 A3 c3) :
    Al w.heap.size (w6.alloc (.cells (ndR ⟨w6.heap.size, p, g, v, xs, A1, c1, A2, c2, A3, dn, c3, .slice none 0 0, none⟩ (new0 id hT hV sI sT pat win l)) 60)) ⟨w6.heap.size, p, g, v, xs, A1, c1, A2, c2, A3, dn, c3, .slice none 0 0, none⟩ (new0 id hT hV sI sT pat win l) := by
  have hal := Rg.alloc_below' w6 (.cells (ndR ⟨w6.heap.size, p, g, v, xs, A1, c1, A2, c2, A3, dn, c3, .slice none 0 0, none⟩ (new0 id hT hV sI sT pat win l)) 60)
  have h67 := h6.bel.trans (hal.mono h6.bel.size)
  have s3 := h3.size
  have s4 := h4.size
  have s5 := h35.size
  have s45 := h5.fr.size
  have s6 := h6.bel.size
  have hsz : (w6.alloc (.cells (ndR ⟨w6.heap.size, p, g, v, xs, A1, c1, A2, c2, A3, dn, c3, .slice none 0 0, none⟩ (new0 id hT hV sI sT pat win l)) 60)).heap.size = w6.heap.size + 1 := by simp
  have hgl := Rg.Blk.lt h5.im.blk
  have hvl := fun i hi => (Rg.row_lo h5.im.row i hi)
  have hv4 : ∀ i, v.ownBlock = some i → w4.heap.size ≤ i ∧ i < w5.heap.size := by
    intro i hi
    refine ⟨?_, (hvl i hi).2⟩
    rcases h5.at' i hi with h | h
    · simp [Value.ownBlock] at h
    · exact h
  have hgrp := new0_es ho
  have hrd : RdI w6 A1 1 [id] := h6.r1
  have hfoot : ∀ i, i ∈ (⟨w6.heap.size, p, g, v, xs, A1, c1, A2, c2, A3, dn, c3, .slice none 0 0, none⟩ : PB).foot → i = w6.heap.size ∨ (i = p.g ∨ i = p.b) ∨ i = g ∨ v.ownBlock = some i := by
    intro i hi
    rcases mem_foot.1 hi with h | h | h | h | h | h | h
    · exact .inl h
    · exact .inr (.inl (.inl h))
    · exact .inr (.inl (.inr h))
    · exact .inr (.inr (.inl h))
    · exact .inr (.inr (.inr h))
    · simp [Value.ownBlock] at h
    · cases h
  have hpg := hp p.g (by simp [El.Pl.all])
  have hpb := hp p.b (by simp [El.Pl.all])
  have hro : ∀ i, i ∈ (⟨w6.heap.size, p, g, v, xs, A1, c1, A2, c2, A3, dn, c3, .slice none 0 0, none⟩ : PB).ro → (i ∈ p.all ∧ i ≠ p.g ∧ i ≠ p.b) ∨ (w5.heap.size ≤ i ∧ i < w6.heap.size) := by
    intro i hi
    rcases mem_ro.1 hi with ⟨a, ha, rfl⟩ | ⟨a, ha, rfl⟩ | ⟨a, ha, rfl⟩
    · refine .inl ⟨?_, (he.va a ha).1, (he.va a ha).2⟩
      simp only [El.Pl.all, List.mem_cons, List.mem_append, Option.mem_toList, Option.map_eq_some_iff]
      exact .inl (.inr (.inr ⟨a, ha, rfl⟩))
    · refine .inl ⟨?_, (he.la a ha).1, (he.la a ha).2⟩
      simp only [El.Pl.all, List.mem_cons, List.mem_append, Option.mem_toList, Option.map_eq_some_iff]
      exact .inr ⟨a, ha, rfl⟩
    · exact .inr (h6.b1 a ha)
  refine ⟨Qu.Blk.new w6 _ _, (he.below h35).below h67, h5.im.below h67, hrd.below hal, Rg.row_nil _ _ _ _, (fun m hm => by cases hm), (fun e => by cases e), ?_, ?_, rfl, rfl, ?_, ?_, ho.win, ?_, h6.n2, ?_⟩
  · intro i hi
    rcases hfoot i hi with rfl | (rfl | rfl) | rfl | h
    · omega
    · exact hpg.1
    · exact hpb.1
    · omega
    · have := hv4 i h; omega
  · intro i hi hm
    rcases hro i hi with ⟨h1, h2, h3'⟩ | ⟨h1, h2⟩
    · have := hp i h1
      rcases hfoot i hm with rfl | (rfl | rfl) | rfl | h
      · omega
      · exact h2 rfl
      · exact h3' rfl
      · omega
      · have := hv4 i h; omega
    · rcases hfoot i hm with rfl | (rfl | rfl) | rfl | h
      · omega
      · omega
      · omega
      · omega
      · have := hv4 i h; omega
  · intro i hi
    rcases hro i hi with ⟨h1, _⟩ | ⟨_, h2⟩
    · have := hp i h1; omega
    · omega
  · intro x hx
    have hx' : x ∈ (Rg.stAdd (Rg.st0 sI sT) l).es := hx
    rw [hgrp.1] at hx'
    exact ho.kind x hx'
  · exact hgrp.2.symm
  · have := h5.im.n
    rw [hgrp.1] at this
    show xs.length ≤ 1000000
    rw [← this]; exact ho.few
end Go.Proofs.YtjadfpcipicckaaGreat.Rf

namespace Go.Proofs.YtjadfpcipicckaaGreat.Rf
open Go.RowKit Go.Shelf Go.Proofs.YtjadfpcipicckaaGreat.Fld
open Go.Proofs.YtjadfpcipicckaaGreat.Qu (RdI)
set_option linter.unusedVariables false

def bxs (w : World) (hT hV : Int) (sc : Array Value) (pat win : Int) : World := ((w.alloc (.cells #[.int .i64 hT, .int .i64 hV] 23)).alloc (.cells sc 29)).alloc (.cells #[.int .i64 pat, .int .i64 win] 31)
theorem bxs_all (w : World) (hT hV : Int) (sc : Array Value) (pat win : Int) : Below w.heap.size w (bxs w hT hV sc pat win) ∧ Rg.Blk (bxs w hT hV sc pat win) w.heap.size #[.int .i64 hT, .int .i64 hV] 23 ∧ Rg.Blk (bxs w hT hV sc pat win) (w.heap.size + 1) sc 29 ∧ Rg.Blk (bxs w hT hV sc pat win) (w.heap.size + 2) #[.int .i64 pat, .int .i64 win] 31 ∧ (bxs w hT hV sc pat win).heap.size = w.heap.size + 3 := by
  unfold bxs
  refine ⟨(((Below.refl _ w).alloc (Nat.le_refl _) _).alloc (by simp) _).alloc (by simp; omega) _, ((Rg.Blk.new w _ _).past _).past _, ?_, ?_, by simp⟩
  · have := (Rg.Blk.new (w.alloc (.cells #[.int .i64 hT, .int .i64 hV] 23)) sc 29).past (.cells #[.int .i64 pat, .int .i64 win] 31)
    rw [World.size_alloc] at this
    exact this
  · have := Rg.Blk.new ((w.alloc (.cells #[.int .i64 hT, .int .i64 hV] 23)).alloc (.cells sc 29)) #[.int .i64 pat, .int .i64 win] 31
    rw [World.size_alloc, World.size_alloc] at this
    exact this
def MadeIs (w : World) (s : AS) (e : Ending) (w' : World) : Prop := ∃ b, e = .returned (.tuple #[.pointer (some ⟨b.nb, 0, none⟩), .int .i64 0]) ∧ Al w.heap.size w' b s ∧ Below w.heap.size w w' ∧ b.pm = none ∧ b.rv = .slice none 0 0 ∧ b.xs.length = s.g.es.length
set_option maxRecDepth 100000 in
set_option maxHeartbeats 1600000 in
theorem new_any (id hT hV sI sT pat win : Int) (VA : Option Addr) (vc : Nat) (LA : Option Addr) (lc : Nat) (DA : Option Addr) (dn dc : Nat) (ds : List Int) (hdn : ds.length = dn) (EA : Option Addr) (m ec : Nat) (ls : List Rg.EA) (w : World)
    (ho : NewOk id hT hV sI sT pat win dn (Rg.ens ls)) (hv : RdI w VA 1 [id]) (hd : Fld.Rd w DA dn ds) (hz : DA = none → dc = 0) (he : Rg.RdE w EA m ls) (hez : EA = none → ec = 0) :
    Calls Tryz.prog 6 #[.int .i64 id, .agg #[.int .i64 hT, .int .i64 hV], snV sI sT VA 1 vc LA 0 lc DA dn dc, .slice EA m ec, .agg #[.int .i64 pat, .int .i64 win]] w (MadeIs w (new0 id hT hV sI sT pat win (Rg.ens ls))) := by
  obtain ⟨hb, k0, k1, k2, hsz⟩ := bxs_all w hT hV (snC sI sT VA 1 vc LA 0 lc DA dn dc) pat win
  have HB := Lib.hid hb
  have HK0 := Lib.hid k0
  have HK1 := Lib.hid k1
  have HK2 := Lib.hid k2
  have HSZ := Lib.hid hsz
  have HO := Lib.hid ho
  have hg := new0_grp ho
  have hok : okSnap sI sT [id] [] dn = true := by
    unfold okSnap
    rw [ho.i, ho.t, hg]
    simp [ho.dn]
  have HVS := Lib.hid (fun W (hW : Below w.heap.size w W) => validSnap_any sI sT VA 1 vc [id] LA 0 lc [] DA dn dc W (hv.below hW) (Qu.RdI.nil _ _))
  rw [hok] at HVS
  have HEN := Lib.hid (fun W (hW : Below w.heap.size w W) => El.new_ok id hT hV pat VA vc [id] LA lc [] W (hv.below hW) (Qu.RdI.nil _ _) ho.el)
  have HCS := Lib.hid (fun W (hW : Below w.heap.size w W) => csnap_any sI sT VA vc [id] LA lc [] DA dc ds W (hv.below hW) (Qu.RdI.nil _ _) (by simp) (by simp) (by rw [hdn]; exact hd.below hW) hz (by have := ho.dn; omega))
  have HRN := Lib.hid (fun W (hW : w.heap.size ≤ W.heap.size) => Rg.new_ok w.heap.size sI sT W hW ho.i ho.t)
  have hml : ls.length = m := he.len
  have HAD := Lib.hid (fun W (hW : Below w.heap.size w W) g (hI : Rg.Im w.heap.size W g (Rg.st0 sI sT) (.slice none 0 0) []) => Rg.add_any w.heap.size g (Rg.st0 sI sT) (.slice none 0 0) [] EA m ec ls W hI hW.size (he.below hW) hez (by have := ho.few; rw [Rg.ens_len] at this; omega) (by simp))
  rw [ho.add] at HAD
  unfold Qu.grpV at HEN
  unfold snV at HVS HCS ⊢
  unfold bxs snC at *
  have d0 := k2.cell 0 (.int .i64 pat) rfl
  have d1 := k2.cell 1 (.int .i64 win) rfl
  have q1 : ¬ win < 1 := by have := ho.win; omega
  have q2 : ¬ 64 < win := by have := ho.win; omega
  rw [hdn] at HCS
  simp only [List.length_cons, List.length_nil, Nat.zero_add] at HEN HCS
  clear hb k0 k1 k2 hsz hv hd hz he hez hg hok ho hml
  go_enter Tryz.func6, Tryz.ntmps6
  go_upto_region 1 with fail
  generalize ((w.alloc (.cells #[.int .i64 hT, .int .i64 hV] 23)).alloc (.cells #[.int .i64 sI, .int .i64 sT, .slice VA 1 vc, .slice LA 0 lc, .slice DA dn dc] 29)).alloc (.cells #[.int .i64 pat, .int .i64 win] 31) = wb at *
  go_quiet (fail)
  have HB1 := Lib.hid (HB.out.trans ((Qu.below_dr wb nq).mono HB.out.size))
  have HW1 := Lib.hid (Qu.below_dr wb nq)
  generalize wb.drewN nq = w1 at *
  have e0 := (HK1.out.below HW1.out).cell 0 (.int .i64 sI) rfl
  have e1 := (HK1.out.below HW1.out).cell 1 (.int .i64 sT) rfl
  have e2 := (HK1.out.below HW1.out).cell 2 (.slice VA 1 vc) rfl
  have e3 := (HK1.out.below HW1.out).cell 3 (.slice LA 0 lc) rfl
  have e4 := (HK1.out.below HW1.out).cell 4 (.slice DA dn dc) rfl
  clear d0 d1
  go_wp2_with fail
  refine (HVS.out _ HB1.out).mono ?_
  rintro e w2 ⟨rfl, hb2⟩
  have HB2 := Lib.hid (HB1.out.trans (hb2.mono HB1.out.size))
  have HW2 := Lib.hid (HW1.out.trans (hb2.mono HW1.out.size))
  clear hb2 e0 e1 e2 e3 e4
  have h0 := (HK0.out.below HW2.out).cell 0 (.int .i64 hT) rfl
  have h1 := (HK0.out.below HW2.out).cell 1 (.int .i64 hV) rfl
  have e2 := (HK1.out.below HW2.out).cell 2 (.slice VA 1 vc) rfl
  have e3 := (HK1.out.below HW2.out).cell 3 (.slice LA 0 lc) rfl
  go_wp2_with fail
  refine (HEN.out _ HB2.out).mono ?_
  rintro e w3 ⟨p, rfl, hM⟩
  have HM := Lib.hid hM
  have HB3 := Lib.hid (HB2.out.trans (hM.bel.mono HB2.out.size))
  have HW3 := Lib.hid (HW2.out.trans (hM.bel.mono HW2.out.size))
  clear hM h0 h1 e2 e3
  have e0 := (HK1.out.below HW3.out).cell 0 (.int .i64 sI) rfl
  have e1 := (HK1.out.below HW3.out).cell 1 (.int .i64 sT) rfl
  go_wp2_with fail
  refine (HRN.out _ HB3.out.size).mono ?_
  rintro e w4 ⟨g, rfl, hg, hI, hb4⟩
  have HG := Lib.hid hg
  have HB4 := Lib.hid (HB3.out.trans (hb4.mono HB3.out.size))
  have HW4 := Lib.hid hb4
  have HAD4 := Lib.hid (HAD.out _ HB4.out g hI)
  clear hg hI hb4 e0 e1
  go_wp2_with fail
  refine HAD4.out.mono ?_
  rintro e w5 ⟨v, xs, rfl, hD⟩
  have HD := Lib.hid hD
  have hs := HB3.out.size
  have HW35 := Lib.hid (Dk.Fr.to_below HW4.out hD.fr (fun i hi => by simp [Value.ownBlock] at hi; have := HG.out; omega))
  have HB5 := Lib.hid (HB3.out.trans (HW35.out.mono HB3.out.size))
  have HW5 := Lib.hid (HW3.out.trans (HW35.out.mono HW3.out.size))
  have HKX := Lib.hid (fun W (hW : Below wb.heap.size wb W) => And.intro (HK0.out.below hW) (HK1.out.below hW))
  clear hD hs
  have h0 := (HKX.out _ HW5.out).1.cell 0 (.int .i64 hT) rfl
  have h1 := (HKX.out _ HW5.out).1.cell 1 (.int .i64 hV) rfl
  have e0 := (HKX.out _ HW5.out).2.cell 0 (.int .i64 sI) rfl
  have e1 := (HKX.out _ HW5.out).2.cell 1 (.int .i64 sT) rfl
  have e2 := (HKX.out _ HW5.out).2.cell 2 (.slice VA 1 vc) rfl
  have e3 := (HKX.out _ HW5.out).2.cell 3 (.slice LA 0 lc) rfl
  have e4 := (HKX.out _ HW5.out).2.cell 4 (.slice DA dn dc) rfl
  have HB5d := Lib.hid (HB5.out.trans ((Below.refl w5.heap.size w5).drew.mono HB5.out.size))
  have HW5d := Lib.hid (HW5.out.trans ((Below.refl w5.heap.size w5).drew.mono HW5.out.size))
  go_wp2_with fail
  go_region_held3 (fun w' => w'.cell? ⟨w.heap.size, 0, none⟩ = some (.int .i64 hT) ∧ w'.cell? ⟨w.heap.size, 1, none⟩ = some (.int .i64 hV) ∧ w'.cell? ⟨w.heap.size + 1, 0, none⟩ = some (.int .i64 sI) ∧ w'.cell? ⟨w.heap.size + 1, 1, none⟩ = some (.int .i64 sT) ∧ w'.cell? ⟨w.heap.size + 1, 2, none⟩ = some (.slice VA 1 vc) ∧ w'.cell? ⟨w.heap.size + 1, 3, none⟩ = some (.slice LA 0 lc) ∧ w'.cell? ⟨w.heap.size + 1, 4, none⟩ = some (.slice DA dn dc)) (first | exact ⟨by assumption, by assumption, by assumption, by assumption, by assumption, by assumption, by assumption⟩ | exact ⟨((Rg.alloc_below' w6 _).cell (lt_of_cell h0)).trans h0, ((Rg.alloc_below' w6 _).cell (lt_of_cell h1)).trans h1, ((Rg.alloc_below' w6 _).cell (lt_of_cell e0)).trans e0, ((Rg.alloc_below' w6 _).cell (lt_of_cell e1)).trans e1, ((Rg.alloc_below' w6 _).cell (lt_of_cell e2)).trans e2, ((Rg.alloc_below' w6 _).cell (lt_of_cell e3)).trans e3, ((Rg.alloc_below' w6 _).cell (lt_of_cell e4)).trans e4⟩ | go_keep) (first
    | (go_at_call 19; refine (HCS.out _ (by exact HB5d.out)).mono ?_; rintro e w6 ⟨A1, c1, A2, c2, A3, c3, he, hC⟩; unfold snV at he; rw [hdn] at he; simp only [List.length_cons, List.length_nil, Nat.zero_add] at he; subst he; have HC := Lib.hid hC; have HW6 := Lib.hid (HW5d.out.trans (hC.bel.mono HW5d.out.size)); have h0 := (HKX.out _ HW6.out).1.cell 0 (.int .i64 hT) rfl; have h1 := (HKX.out _ HW6.out).1.cell 1 (.int .i64 hV) rfl; have e0 := (HKX.out _ HW6.out).2.cell 0 (.int .i64 sI) rfl; have e1 := (HKX.out _ HW6.out).2.cell 1 (.int .i64 sT) rfl; have e2 := (HKX.out _ HW6.out).2.cell 2 (.slice VA 1 vc) rfl; have e3 := (HKX.out _ HW6.out).2.cell 3 (.slice LA 0 lc) rfl; have e4 := (HKX.out _ HW6.out).2.cell 4 (.slice DA dn dc) rfl; clear hC))
  have HB6 := Lib.hid (HB5.out.trans (((Below.refl w5.heap.size w5).drew.trans HC.out.bel).mono HB5.out.size))
  have HM2 := Lib.hid (show ∀ i ∈ p.all, w.heap.size ≤ i ∧ i < w3.heap.size from fun i hi => ⟨Nat.le_trans HB2.out.size (HM.out.new i hi).1, (HM.out.new i hi).2⟩)
  have HAL := Lib.hid (al_made HO.out hdn HB3.out HM.out.im HM2.out HW4.out HG.out HD.out HW35.out (A1 := A1) (c1 := c1) (A2 := A2) (c2 := c2) (A3 := A3) (c3 := c3) ⟨HC.out.n2, HC.out.r1, HC.out.r2, HC.out.b1, HC.out.b2, (Below.refl w5.heap.size w5).drew.trans HC.out.bel⟩)
  have HB7 := Lib.hid (HB6.out.alloc HB6.out.size (.cells (ndR ⟨w6.heap.size, p, g, v, xs, A1, c1, A2, c2, A3, dn, c3, .slice none 0 0, none⟩ (new0 id hT hV sI sT pat win (Rg.ens ls))) 60))
  clear h0 h1 e0 e1 e2 e3 e4
  obtain ⟨nb, hnb⟩ : ∃ nb, nb = w6.heap.size := ⟨_, rfl⟩
  obtain ⟨w7, hw7⟩ : ∃ w7, w7 = w6.alloc (.cells (ndR ⟨w6.heap.size, p, g, v, xs, A1, c1, A2, c2, A3, dn, c3, .slice none 0 0, none⟩ (new0 id hT hV sI sT pat win (Rg.ens ls))) 60) := ⟨_, rfl⟩
  rw [← hw7, ← hnb] at HAL
  rw [← hw7] at HB7
  have hfst := Rg.first_any g _ _ _ _ _ w7 HAL.out.lg.blk HAL.out.lg.ok.b0 (by have h1 := HAL.out.lg.ok.bl; unfold Rg.St.last at h1; omega)
  have HFST := Lib.hid hfst
  have HRG := Lib.hid (fun f => regroup_any (b := ⟨nb, p, g, v, xs, A1, c1, A2, c2, A3, dn, c3, .slice none 0 0, none⟩) (s := new0 id hT hV sI sT pat win (Rg.ens ls)) f HAL.out (fun h => by cases h))
  rw [← hnb]
  generalize hobj : w6.alloc (.cells #[.pointer (some ⟨p.g, 0, none⟩), .int .i64 id, .int .i64 win, .pointer (some ⟨g, 0, none⟩), .int .i64 sI, .int .i64 sT, .slice A1 1 c1, .slice A2 0 c2, .slice A3 dn c3, .slice none 0 0, .int .i64 hT, .int .i64 hV, .bool false, .int .i64 0, .int .i64 0, .bool false, .int .i64 0, .int .i64 0, .slice none 0 0, .slice none 0 0, .slice none 0 0, .int .i64 0, .slice none 0 0, .slice none 0 0, .map none, .slice none 0 0, .int .i64 0] 60) = w8
  obtain rfl : w7 = w8 := hw7.trans hobj
  clear hobj hw7 hnb hfst
  generalize (new0 id hT hV sI sT pat win (Rg.ens ls)).g.base = bs at *
  go_wp2_with fail
  refine HFST.out.mono ?_
  rintro e w' ⟨rfl, rfl⟩
  go_wp2_with fail
  refine (HRG.out _).mono ?_
  rintro e w9 ⟨rfl, p', hA⟩
  have HA := Lib.hid hA
  clear hA
  go_wp2
  go_ret2
  refine ⟨_, rfl, HA.out.im, Dk.Fr.to_below HB7.out HA.out.fr HAL.out.lo, rfl, rfl, ?_⟩
  exact HAL.out.lg.n.symm
end Go.Proofs.YtjadfpcipicckaaGreat.Rf
