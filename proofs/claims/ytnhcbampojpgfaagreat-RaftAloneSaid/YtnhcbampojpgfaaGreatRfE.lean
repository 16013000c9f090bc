/-
  Layer 12, a node that is alone: add. Conditions: the node lies in memory; as Leader it has a map of peers; the log has room, and its terms are not above the elector's.
-/
import Derived.Test.YtnhcbampojpgfaaGreatRfD
namespace Go.Proofs.YtnhcbampojpgfaaGreat.Rf
open Go.RowKit Go.Shelf Go.Proofs.YtnhcbampojpgfaaGreat.Fld
open Go.Proofs.YtnhcbampojpgfaaGreat.Qu (RdI)
set_option linter.unusedVariables false

theorem field_hard (a b : Int) (W : World) : (Instr.field 51 (.agg #[.int .i64 a, .int .i64 b]) 0).run Tryz.prog W = .ok (.int .i64 a) W := by kernel_rfl
def entC (s : AS) (kind : Int) (DA : Option Addr) (dn dc : Nat) : Obj := .cells #[.int .i64 (s.g.last + 1), .int .i64 s.e.term, .int .i64 kind, .slice DA dn dc] 68
theorem Al.add {lo : Nat} {w : World} {b : PB} {s : AS} {kind : Int} {data : List Int} {DA : Option Addr} {dc : Nat} (h : Al lo w b s) (ho : AddOk s kind data b.xs.length) (hd : Fld.Rd w DA data.length data) (hA : DA = none → dc = 0) (W : World) (hW : Below w.heap.size w W) :
    Calls Tryz.prog 44 #[.pointer (some ⟨b.g, 0, none⟩), .slice (some ⟨W.heap.size, 0, none⟩) 1 1] (W.alloc (entC s kind DA data.length dc)) fun e w' => e = .returned (.int .i64 0) ∧ ∃ v' xs', Aft lo (W.alloc (entC s kind DA data.length dc)) w' b { b with v := v', xs := xs' } { s with g := { s.g with es := s.g.es ++ [entN s kind data] } } ∧ xs'.length = b.xs.length + 1 := by
  have hh := h.below hW
  have hal := Rg.alloc_below' W (entC s kind DA data.length dc)
  have h2 := hh.below hal
  obtain ⟨o1, o2⟩ := add_ok h ho
  have hlo : lo ≤ (W.alloc (entC s kind DA data.length dc)).heap.size := Nat.le_trans (h2.lo b.nb (mem_foot.2 (by simp))) (Nat.le_of_lt h2.blk.lt)
  refine (Rg.add_any lo b.g s.g b.v b.xs (some ⟨W.heap.size, 0, none⟩) 1 1 [⟨entN s kind data, DA, dc⟩] _ h2.lg hlo (ents_one W DA dc (entN s kind data) (hd.below hW) hA) (fun e => by cases e) (by omega) h.few).mono ?_
  rintro e w' ⟨v', xs', rfl, hD⟩
  have e1 : Rg.addC s.g (Rg.ens [⟨entN s kind data, DA, dc⟩]) = 0 := by
    show Rg.addC s.g [entN s kind data] = 0
    unfold Rg.addC
    rw [if_pos o1, if_pos o2]
  have e2 : Rg.stAdd s.g (Rg.ens [⟨entN s kind data, DA, dc⟩]) = { s.g with es := s.g.es ++ [entN s kind data] } := by
    show Rg.stAdd s.g [entN s kind data] = _
    unfold Rg.stAdd
    rw [if_pos ⟨o1, o2⟩]
  rw [e1]
  rw [e2] at hD
  have hl : xs'.length = b.xs.length + 1 := by
    rw [← hD.im.n, ← h.lg.n]
    simp
  refine ⟨rfl, v', xs', h2.log hD (fun x hx => ?_) rfl (by have := ho.few; omega), hl⟩
  rcases List.mem_append.1 hx with hx | hx
  · exact h.kind x hx
  · simp only [List.mem_singleton] at hx
    subst hx
    exact ho.kind2
set_option maxRecDepth 100000 in
set_option maxHeartbeats 3200000 in
theorem add_any {lo : Nat} {w : World} {b : PB} {s : AS} (kind : Int) (data : List Int) (DA : Option Addr) (dn dc : Nat) (hdn : data.length = dn) (h : Al lo w b s) (hr : s.e.role = 3 → ∃ m, b.pm = some m) (ho : AddOk s kind data b.xs.length) (hd : Fld.Rd w DA dn data) (hA : DA = none → dc = 0) :
    Calls Tryz.prog 87 #[.pointer (some ⟨b.nb, 0, none⟩), .int .i64 kind, .slice DA dn dc] w fun e w' => e = .returned (.int .i64 0) ∧ ∃ p' v' xs', Aft lo w w' b { b with p := p', v := v', xs := xs' } (addS s kind data) ∧ xs'.length = b.xs.length + 1 := by
  subst hdn
  have c3 := h.c3
  have c0 := h.c0
  have hb0 := h.lg.ok.b0
  have j0 : 0 ≤ s.g.last := by unfold Rg.St.last; omega
  have j1 := ho.top
  have qi : ((s.g.last + 1) == 0) = false := by simp; omega
  have HS := Lib.hid h
  have HR := Lib.hid hr
  have HL := Lib.hid (h.last w (Below.refl _ _))
  have HAD := Lib.hid (fun W (hW : Below w.heap.size w W) => h.add ho hd hA W hW)
  have HH := Lib.hid (fun W (hW : Below w.heap.size w W) => El.hard_any b.p s.e W (h.el.below hW))
  have qf := fun W => field_hard s.e.term s.e.vote W
  unfold entC at HAD
  clear h hr hd hA hb0 ho
  generalize hlast : s.g.last = last at *
  have HLA := Lib.hid hlast
  clear hlast
  generalize data.length = dn at *
  go_enter Tryz.func87, Tryz.ntmps87
  go_wp2_with fail
  refine HL.out.mono ?_
  rintro e w1 ⟨rfl, m, rfl⟩
  have HB1 := Lib.hid (Qu.below_dr w m)
  have d3 : (w.drewN m).cell? ⟨b.nb, 3, none⟩ = _ := c3
  have d0 : (w.drewN m).cell? ⟨b.nb, 0, none⟩ = _ := c0
  clear c3 c0
  generalize w.drewN m = w1 at *
  have HBd := Lib.hid (HB1.out.trans ((Below.refl w1.heap.size w1).drew.mono HB1.out.size))
  go_wp2_with fail
  go_region_held3 (fun w' => w'.cell? ⟨b.nb, 3, none⟩ = some (.pointer (some ⟨b.g, 0, none⟩)) ∧ w'.cell? ⟨b.nb, 0, none⟩ = some (.pointer (some ⟨b.p.g, 0, none⟩))) (first | exact ⟨by assumption, by assumption⟩ | go_keep) (first
    | (go_at_call 27; refine (HH.out _ (by exact HBd.out)).mono ?_; rintro e w2 ⟨rfl, hb2⟩; have HB2 := Lib.hid (HBd.out.trans (hb2.mono HBd.out.size)); have d3 := (hb2.cell (p := ⟨b.nb, 3, none⟩) (lt_of_cell d3)).trans (show World.cell? w1.drew _ = _ from d3); have d0 := (hb2.cell (p := ⟨b.nb, 0, none⟩) (lt_of_cell d0)).trans (show World.cell? w1.drew _ = _ from d0); clear hb2)
    | (go_at_call 44; refine (HAD.out _ (by exact HB2.out)).mono ?_; rintro e w3 ⟨rfl, v', xs', hA3, hl3⟩; have d3 := hA3.im.c3; have d0 := hA3.im.c0; have HL3 := Lib.hid hl3; have HA3 := Lib.hid hA3; clear hA3 hl3))
  have HA4 := Lib.hid (Aft.past HS.out (HB2.out.alloc HB2.out.size _) HA3.out)
  have HW := Lib.hid (wrote_any (last + 1) HA4.out.im HR.out (by omega))
  clear d3 d0
  go_wp2_with fail
  refine HW.out.mono ?_
  rintro e w4 ⟨rfl, p', hA5⟩
  have HA5 := Lib.hid (HA4.out.then hA5)
  clear hA5
  go_wp2
  go_ret
  exact ⟨rfl, p', v', xs', by unfold addS; rw [HLA.out]; exact HA5.out, HL3.out⟩
end Go.Proofs.YtnhcbampojpgfaaGreat.Rf
