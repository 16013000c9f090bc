/-
  Several texts in one: Layer 12, a node that is alone: add. Conditions: the node lies in memory; as Leader it has a map of peers; the log has room, and its terms are not above the elector's. Layer 12, a node that is alone: advance commits its whole log, if the last entry has its own term. Conditions: the node lies in memory.
-/
import Derived.Test.YtjadfpcipicckaaGreatJRfC
import Derived.Test.YtjadfpcipicckaaGreatJQuM
import Derived.Deep.RegionHeld3
import Derived.Deep.MidRow
namespace Go.Proofs.YtjadfpcipicckaaGreat.Rf
open Go.RowKit Go.Shelf Go.Proofs.YtjadfpcipicckaaGreat.Fld
open Go.Proofs.YtjadfpcipicckaaGreat.Qu (RdI)
set_option linter.unusedVariables false

theorem field_hard (a b : Int) (W : World) : (Instr.field 23 (.agg #[.int .i64 a, .int .i64 b]) 0).run Tryz.prog W = .ok (.int .i64 a) W := by kernel_rfl
def entC (s : AS) (kind : Int) (DA : Option Addr) (dn dc : Nat) : Obj := .cells #[.int .i64 (s.g.last + 1), .int .i64 s.e.term, .int .i64 kind, .slice DA dn dc] 67
theorem Al.add {lo : Nat} {w : World} {b : PB} {s : AS} {kind : Int} {data : List Int} {DA : Option Addr} {dc : Nat} (h : Al lo w b s) (ho : AddOk s kind data b.xs.length) (hd : Fld.Rd w DA data.length data) (hA : DA = none → dc = 0) (W : World) (hW : Below w.heap.size w W) :
    Calls Tryz.prog 18 #[.pointer (some ⟨b.g, 0, none⟩), .slice (some ⟨W.heap.size, 0, none⟩) 1 1] (W.alloc (entC s kind DA data.length dc)) fun e w' => e = .returned (.int .i64 0) ∧ ∃ v' xs', Aft lo (W.alloc (entC s kind DA data.length dc)) w' b { b with v := v', xs := xs' } { s with g := { s.g with es := s.g.es ++ [entN s kind data] } } ∧ xs'.length = b.xs.length + 1 := by
  have hh := h.below hW
  have hal := Rg.alloc_below' W (entC s kind DA data.length dc)
  have h2 := hh.below hal
  obtain ⟨o1, o2⟩ := add_ok h ho
  have hlo : lo ≤ (W.alloc (entC s kind DA data.length dc)).heap.size := Nat.le_trans (h2.lo b.nb (mem_foot.2 (by simp))) (Nat.le_of_lt h2.blk.lt)
  refine (Rg.add_any lo b.g s.g b.v b.xs (some ⟨W.heap.size, 0, none⟩) 1 1 [⟨entN s kind data, DA, dc⟩] _ h2.lg hlo (ents_one W DA dc (entN s kind data) (hd.below hW) hA) (fun e => by cases e) (by omega) h.few).mono ?_
  rintro e w' ⟨v', xs', rfl, hD⟩
  have e1 : Rg.addC s.g (Rg.ens [⟨entN s kind data, DA, dc⟩]) = 0 := by
    show Rg.addC s.g [entN s kind data] = 0
    unfold Rg.addC
    rw [if_pos o1, if_pos o2]
  have e2 : Rg.stAdd s.g (Rg.ens [⟨entN s kind data, DA, dc⟩]) = { s.g with es := s.g.es ++ [entN s kind data] } := by
    show Rg.stAdd s.g [entN s kind data] = _
    unfold Rg.stAdd
    rw [if_pos ⟨o1, o2⟩]
  rw [e1]
  rw [e2] at hD
  have hl : xs'.length = b.xs.length + 1 := by
    rw [← hD.im.n, ← h.lg.n]
    simp
  refine ⟨rfl, v', xs', h2.log hD (fun x hx => ?_) rfl (by have := ho.few; omega), hl⟩
  rcases List.mem_append.1 hx with hx | hx
  · exact h.kind x hx
  · simp only [List.mem_singleton] at hx
    subst hx
    exact ho.kind2
set_option maxRecDepth 100000 in
set_option maxHeartbeats 3200000 in
theorem add_any {lo : Nat} {w : World} {b : PB} {s : AS} (kind : Int) (data : List Int) (DA : Option Addr) (dn dc : Nat) (hdn : data.length = dn) (h : Al lo w b s) (hr : s.e.role = 3 → ∃ m, b.pm = some m) (ho : AddOk s kind data b.xs.length) (hd : Fld.Rd w DA dn data) (hA : DA = none → dc = 0) :
    Calls Tryz.prog 54 #[.pointer (some ⟨b.nb, 0, none⟩), .int .i64 kind, .slice DA dn dc] w fun e w' => e = .returned (.int .i64 0) ∧ ∃ p' v' xs', Aft lo w w' b { b with p := p', v := v', xs := xs' } (addS s kind data) ∧ xs'.length = b.xs.length + 1 := by
  subst hdn
  have c3 := h.c3
  have c0 := h.c0
  have hb0 := h.lg.ok.b0
  have j0 : 0 ≤ s.g.last := by unfold Rg.St.last; omega
  have j1 := ho.top
  have qi : ((s.g.last + 1) == 0) = false := by simp; omega
  have HS := Lib.hid h
  have HR := Lib.hid hr
  have HL := Lib.hid (h.last w (Below.refl _ _))
  have HAD := Lib.hid (fun W (hW : Below w.heap.size w W) => h.add ho hd hA W hW)
  have HH := Lib.hid (fun W (hW : Below w.heap.size w W) => El.hard_any b.p s.e W (h.el.below hW))
  have qf := fun W => field_hard s.e.term s.e.vote W
  unfold entC at HAD
  clear h hr hd hA hb0 ho
  generalize hlast : s.g.last = last at *
  have HLA := Lib.hid hlast
  clear hlast
  generalize data.length = dn at *
  go_enter Tryz.func54, Tryz.ntmps54
  go_wp2_with fail
  refine HL.out.mono ?_
  rintro e w1 ⟨rfl, m, rfl⟩
  have HB1 := Lib.hid (Qu.below_dr w m)
  have d3 : (w.drewN m).cell? ⟨b.nb, 3, none⟩ = _ := c3
  have d0 : (w.drewN m).cell? ⟨b.nb, 0, none⟩ = _ := c0
  clear c3 c0
  generalize w.drewN m = w1 at *
  have HBd := Lib.hid (HB1.out.trans ((Below.refl w1.heap.size w1).drew.mono HB1.out.size))
  go_wp2_with fail
  go_region_held3 (fun w' => w'.cell? ⟨b.nb, 3, none⟩ = some (.pointer (some ⟨b.g, 0, none⟩)) ∧ w'.cell? ⟨b.nb, 0, none⟩ = some (.pointer (some ⟨b.p.g, 0, none⟩))) (first | exact ⟨by assumption, by assumption⟩ | go_keep) (first
    | (go_at_call 31; refine (HH.out _ (by exact HBd.out)).mono ?_; rintro e w2 ⟨rfl, hb2⟩; have HB2 := Lib.hid (HBd.out.trans (hb2.mono HBd.out.size)); have d3 := (hb2.cell (p := ⟨b.nb, 3, none⟩) (lt_of_cell d3)).trans (show World.cell? w1.drew _ = _ from d3); have d0 := (hb2.cell (p := ⟨b.nb, 0, none⟩) (lt_of_cell d0)).trans (show World.cell? w1.drew _ = _ from d0); clear hb2)
    | (go_at_call 18; refine (HAD.out _ (by exact HB2.out)).mono ?_; rintro e w3 ⟨rfl, v', xs', hA3, hl3⟩; have d3 := hA3.im.c3; have d0 := hA3.im.c0; have HL3 := Lib.hid hl3; have HA3 := Lib.hid hA3; clear hA3 hl3))
  have HA4 := Lib.hid (Aft.past HS.out (HB2.out.alloc HB2.out.size _) HA3.out)
  have HW := Lib.hid (wrote_any (last + 1) HA4.out.im HR.out (by omega))
  clear d3 d0
  go_wp2_with fail
  refine HW.out.mono ?_
  rintro e w4 ⟨rfl, p', hA5⟩
  have HA5 := Lib.hid (HA4.out.then hA5)
  clear hA5
  go_wp2
  go_ret
  exact ⟨rfl, p', v', xs', by unfold addS; rw [HLA.out]; exact HA5.out, HL3.out⟩
end Go.Proofs.YtjadfpcipicckaaGreat.Rf

namespace Go.Proofs.YtjadfpcipicckaaGreat.Rf
open Go.RowKit Go.Shelf Go.Proofs.YtjadfpcipicckaaGreat.Fld
open Go.Proofs.YtjadfpcipicckaaGreat.Qu (RdI)
set_option linter.unusedVariables false

theorem blk_range {W : World} {g : Nat} {cs : List Value} {ty : TypeId} (h : Rg.Blk W g cs.toArray ty) : W.rangeAt g 0 cs := by
  intro j v hv
  rw [Nat.zero_add]
  exact h.cell j v (by rw [List.getElem?_toArray]; exact hv)
theorem arr_info (ps : List Int) (hp : ps.length = 16) : (Tryz.prog.info? 144).map (·.size) = some (Qu.vI ps).length := by
  rw [Qu.vI_len, hp]
  kernel_rfl
def zer : List Int := List.replicate 16 0
theorem vI_set (ps : List Int) (m : Nat) (x : Int) : (Qu.vI ps).toArray.setIfInBounds m (.int .i64 x) = (Qu.vI (ps.set m x)).toArray := by
  apply Array.ext_getElem?
  intro i
  simp [Qu.vI, List.getElem?_set, List.getElem?_map]
theorem mid_alone (m : Nat) (id last : Int) (h : id = m) (hm : 1 ≤ m ∧ m ≤ 15) : Qu.midG [id] [] (zer.set m last) = last := by
  subst h
  have hg : Qu.grpOk [(m : Int)] [] = true := (Qu.grpOk_iff _ _).2 (by simp [Qu.upN]; omega)
  unfold Qu.midG
  rw [if_pos hg]
  have : (([(m : Int)] : List Int).map (Qu.atOf (zer.set m last))) = [last] := by
    have hm' : m < 16 := by omega
    simp [Qu.atOf, zer, List.getD_eq_getElem?_getD, hm']
  rw [this]
  simp [Qu.midOf, Qu.need, Qu.srt]
theorem term_last {s : Rg.St} (h : s.Ok) : Rg.termV s s.last = s.lt := (Rg.termV_last s).2
theorem Al.commit {lo : Nat} {w : World} {b : PB} {s : AS} (h : Al lo w b s) (hc : s.g.com ≤ s.g.last) (W : World) (hW : Below w.heap.size w W) : Calls Tryz.prog 94 #[.pointer (some ⟨b.g, 0, none⟩), .int .i64 s.g.last] W fun e w' => (∃ c, e = .returned (.int .i64 c)) ∧ Aft lo W w' b b { s with g := { s.g with com := s.g.last } } := by
  have hh := h.below hW
  refine (Rg.commit_any lo b.g s.g b.v b.xs s.g.last W hh.lg).mono ?_
  rintro e w' ⟨rfl, hD⟩
  refine ⟨⟨_, rfl⟩, ?_⟩
  have es : Rg.stCom s.g s.g.last = { s.g with com := s.g.last } := by unfold Rg.stCom; rw [if_pos ⟨hc, Int.le_refl _⟩]
  rw [es] at hD
  exact hh.log hD h.kind rfl h.few
set_option maxRecDepth 100000 in
set_option maxHeartbeats 3200000 in
theorem advance_any {lo : Nat} {w : World} {b : PB} {s : AS} (h : Al lo w b s) (h1 : s.g.com < s.g.last) (h2 : s.g.lt = s.e.term) :
    Calls Tryz.prog 55 #[.pointer (some ⟨b.nb, 0, none⟩)] w fun e w' => e = .returned (.tuple #[]) ∧ Aft lo w w' b b { s with g := { s.g with com := s.g.last } } := by
  have hid := (El.okNode_iff _).1 h.el.ok.id1
  obtain ⟨m, hm⟩ : ∃ m : Nat, s.e.id = m := ⟨s.e.id.toNat, by omega⟩
  have hm1 : 1 ≤ m ∧ m ≤ 15 := by omega
  have HMID := Lib.hid (mid_alone m s.e.id s.g.last hm hm1)
  have hal := Rg.alloc_below' w (.cells (Qu.vI zer).toArray 144)
  have HAL := Lib.hid hal
  have HS := Lib.hid h
  have hk := Rg.Blk.new w (Qu.vI zer).toArray 144
  have HK := Lib.hid hk
  have hh := h.below hal
  have c1 := hh.c1
  have c3 := hh.c3
  rw [hm] at c1
  have HL := Lib.hid (fun W hW => hh.last W hW)
  have hne : b.nb ≠ w.heap.size := by have := h.blk.lt; omega
  have hz : w.alloc (.cells #[.int .i64 0, .int .i64 0, .int .i64 0, .int .i64 0, .int .i64 0, .int .i64 0, .int .i64 0, .int .i64 0, .int .i64 0, .int .i64 0, .int .i64 0, .int .i64 0, .int .i64 0, .int .i64 0, .int .i64 0, .int .i64 0] 144) = w.alloc (.cells (Qu.vI zer).toArray 144) := rfl
  have j3 : (m : Int) < 16 := by omega
  have j5 : (0 : Int) ≤ (m : Int) := by omega
  have g1 := hk.cell m (.int .i64 0) (by rw [List.getElem?_toArray]; unfold Qu.vI zer; rw [List.map_replicate, List.getElem?_replicate, if_pos (by omega)])
  have f1 := hk.free m
  clear hm h hal hk hh
  go_enter Tryz.func55, Tryz.ntmps55
  go_wp2_with fail
  generalize hw1 : w.alloc (.cells (Qu.vI zer).toArray 144) = w1 at *
  have HB0 := Lib.hid (Below.refl w1.heap.size w1).drew
  go_region_held3 (fun w' => w'.cell? ⟨b.nb, 1, none⟩ = some (.int .i64 (m : Int)) ∧ w'.cell? ⟨b.nb, 3, none⟩ = some (.pointer (some ⟨b.g, 0, none⟩))) (first | exact ⟨by assumption, by assumption⟩ | exact ⟨(World.cell?_of_block (Below.heap_setCell _ _ _ _ hne)).trans c1, (World.cell?_of_block (Below.heap_setCell _ _ _ _ hne)).trans c3⟩ | go_keep) (first
    | (go_at_call 22; refine (HL.out _ (by exact HB0.out)).mono ?_; rintro e w' ⟨rfl, k, rfl⟩; have c1 : (w1.drewN (1 + k)).cell? ⟨b.nb, 1, none⟩ = _ := c1; have c3 : (w1.drewN (1 + k)).cell? ⟨b.nb, 3, none⟩ = _ := c3; have g1 : (w1.drewN (1 + k)).cell? ⟨w.heap.size, m, none⟩ = _ := g1; have f1 : (w1.drewN (1 + k)).frozen? ⟨w.heap.size, m, none⟩ = _ := f1))
  have HB2 := Lib.hid (show Below w.heap.size w ((w1.drewN (1 + k)).setCell ⟨w.heap.size, m, none⟩ (.int .i64 s.g.last)) from (HAL.out.trans ((Qu.below_dr w1 (1 + k)).mono HAL.out.size)).setCell (p := ⟨w.heap.size, m, none⟩) (Nat.le_refl _) _)
  have HK2 := Lib.hid (show Rg.Blk ((w1.drewN (1 + k)).setCell ⟨w.heap.size, m, none⟩ (.int .i64 s.g.last)) w.heap.size (Qu.vI (zer.set m s.g.last)).toArray 144 by
    rw [← vI_set]
    exact Rg.Blk.set (w := w1.drewN (1 + k)) HK.out m _ (by simp [Qu.vI, zer]; omega))
  generalize (w1.drewN (1 + k)).setCell ⟨w.heap.size, m, none⟩ (.int .i64 s.g.last) = w2 at *
  have HS2 := Lib.hid (HS.out.below HB2.out)
  have HMB := Lib.hid (HS2.out.members w2 (Below.refl _ _))
  have hpl : (zer.set m s.g.last).length = 16 := by simp [zer]
  have HMI := Lib.hid (fun W (hW : Below w2.heap.size w2 W) => show Calls Tryz.prog 93 #[grp1 b, .agg (Qu.vI (zer.set m s.g.last)).toArray] W _ from Qu.middle_any b.SV 1 b.svc [s.e.id] b.SL 0 b.slc [] (zer.set m s.g.last) hpl W (HS2.out.sv.below hW) (Qu.RdI.nil _ _))
  rw [HMID.out] at HMI
  have hin := arr_info (zer.set m s.g.last) hpl
  have hun := Tryz.underlying144
  have HGR := Lib.hid (fun W (hW : Below w2.heap.size w2 W) => HS2.out.group W hW)
  generalize Qu.vI (zer.set m s.g.last) = ar at *
  clear c1 c3 g1 f1 hz hw1 HMID HL hpl
  go_wp2_with fail
  refine HMB.out.mono ?_
  rintro e w3 ⟨rfl, hb3⟩
  have HB3 := Lib.hid hb3
  have HK3 := Lib.hid (HK2.out.below hb3)
  clear hb3
  go_wp2
  go_loopw [21] (fun i wr => i = .int .i64 0 ∧ w3 = wr) (fun _ _ => 0)
  case atStart => exact ⟨rfl, rfl⟩
  case round =>
    obtain ⟨rfl, rfl⟩ := hrel
    have l0 := blk_range HK3.out
    have HBd := Lib.hid (HB3.out.trans ((Below.refl w3.heap.size w3).drew.mono HB3.out.size))
    have HKd := Lib.hid (show Rg.Blk w3.drew w.heap.size ar.toArray 144 from HK3.out)
    go_wp2_with fail
    go_region_held3 (fun w' => w'.rangeAt w.heap.size 0 ar) (first | exact (by assumption) | go_keep) (first
      | (go_at_call 25; refine (HGR.out _ (by exact HBd.out)).mono ?_; rintro e w4 ⟨rfl, hb4⟩; have l0 := blk_range (HKd.out.below hb4); have HB4 := Lib.hid (HBd.out.trans (hb4.mono HBd.out.size)); clear hb4)
      | (go_at_call 93; refine (HMI.out _ (by exact HB4.out)).mono ?_; rintro e w5 ⟨rfl, hb5⟩; have HB5 := Lib.hid (HB4.out.trans (hb5.mono HB4.out.size)); have l0 : w5.rangeAt w.heap.size 0 ar := (fun j v hv => (hb5.cell (lt_of_cell (l0 j v hv))).trans (l0 j v hv)); clear hb5))
    have HB5' := Lib.hid (HB2.out.trans (HB5.out.mono HB2.out.size))
    have HS5 := Lib.hid (HS.out.below HB5'.out)
    have HT := Lib.hid (HS5.out.term s.g.last w5 (Below.refl _ _))
    rw [term_last HS.out.lg.ok] at HT
    have d3 := HS5.out.c3
    clear l0
    go_wp2_with fail
    refine HT.out.mono ?_
    rintro e w' ⟨rfl, m2, rfl⟩
    have HS6 := Lib.hid (HS5.out.below (Qu.below_dr w5 m2))
    have HB6 := Lib.hid (HB5'.out.trans ((Qu.below_dr w5 m2).mono HB5'.out.size))
    generalize w5.drewN m2 = w6 at *
    have HCO := Lib.hid (HS6.out.com w6 (Below.refl _ _))
    have HH := Lib.hid (El.hard_any b.p s.e w6 HS6.out.el)
    have qf := fun W => field_hard s.e.term s.e.vote W
    have HCM := Lib.hid (fun W (hW : Below w6.heap.size w6 W) => HS6.out.commit (by omega) W hW)
    have d3 := HS6.out.c3
    have d0 := HS6.out.c0
    have HLT := Lib.hid h2
    rw [h2] at *
    clear h2
    have q1 : ¬ s.g.last ≤ s.g.com := by omega
    have q2 : (s.e.term != s.e.term) = false := by simp
    go_wp2_with fail
    refine HCO.out.mono ?_
    rintro e w' ⟨rfl, rfl⟩
    go_wp2_with fail
    refine HH.out.mono ?_
    rintro e w7 ⟨rfl, hb7⟩
    have d3 := (hb7.cell (p := ⟨b.nb, 3, none⟩) (lt_of_cell d3)).trans d3
    have HB7 := Lib.hid hb7
    clear hb7 d0
    go_wp2_with fail
    refine (HCM.out w7 HB7.out).mono ?_
    rintro e w8 ⟨⟨c, rfl⟩, hA8⟩
    have HA8 := Lib.hid (Aft.past HS.out (HB6.out.trans (HB7.out.mono HB6.out.size)) hA8)
    have HBE := Lib.hid (beats_any hA8.im)
    clear hA8 d3
    go_wp2_with fail
    refine HBE.out.mono ?_
    rintro e w9 ⟨rfl, hb9⟩
    have HA9 := Lib.hid (HA8.out.to hb9)
    clear hb9
    go_wp2
    go_end0
    exact ⟨rfl, HA9.out⟩
end Go.Proofs.YtjadfpcipicckaaGreat.Rf
