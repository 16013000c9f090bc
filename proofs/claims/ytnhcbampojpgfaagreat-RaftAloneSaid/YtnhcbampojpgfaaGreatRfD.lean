/-
  Layer 12, a node that is alone: wrote, sendBeats, sendAll, add. Conditions: the node lies in memory; as Leader it has a map of peers.
-/
import Derived.Test.YtnhcbampojpgfaaGreatRfC
import Derived.Deep.RegionLaw
namespace Go.Proofs.YtnhcbampojpgfaaGreat.Rf
open Go.RowKit Go.Shelf Go.Proofs.YtnhcbampojpgfaaGreat.Fld
open Go.Proofs.YtnhcbampojpgfaaGreat.Qu (RdI)
set_option linter.unusedVariables false

def frmN (f i : Int) : Int := if f = 0 ∨ i < f then i else f
theorem ndR_frm (b : PB) (s : AS) (i : Int) : (ndR b s).setIfInBounds 21 (.int .i64 i) = ndR b { s with frm := i } := rfl
theorem Al.setFrm {lo : Nat} {w : World} {b : PB} {s : AS} (h : Al lo w b s) (i : Int) : Aft lo w (w.setCell ⟨b.nb, 21, none⟩ (.int .i64 i)) b b { s with frm := i } :=
  h.set 21 _ (ndR_frm b s i) (by omega) rfl rfl h.rv (fun _ h => h) (fun _ h => h)
theorem as_frm (s : AS) : ({ s with frm := s.frm } : AS) = s := rfl
set_option maxHeartbeats 1600000 in
theorem wrote_any {lo : Nat} {w : World} {b : PB} {s : AS} (i : Int) (h : Al lo w b s) (hr : s.e.role = 3 → ∃ m, b.pm = some m) (hi : i ≠ 0) : Calls Tryz.prog 165 #[.pointer (some ⟨b.nb, 0, none⟩), .int .i64 i] w fun e w' => e = .returned (.tuple #[]) ∧ ∃ p', Aft lo w w' b { b with p := p' } { s with frm := frmN s.frm i } := by
  have q0 : (i == 0) = false := by simpa using hi
  have c21 := h.c21
  have f21 := h.free 21
  have HS := Lib.hid h
  have HR := Lib.hid hr
  by_cases hc : s.frm = 0 ∨ i < s.frm
  · have hf : frmN s.frm i = i := by unfold frmN; rw [if_pos hc]
    rw [hf]
    have HA1 := Lib.hid (h.setFrm i)
    have HRG := Lib.hid (regroup_any (b := b) (s := { s with frm := i }) i HA1.out.im hr)
    rcases hc with hc | hc
    · have q1 : (s.frm == 0) = true := by simpa using hc
      clear hc h hr hi hf
      generalize s.frm = f at *
      go_enter Tryz.func165, Tryz.ntmps165
      go_wp2_with fail
      refine HRG.out.mono ?_
      rintro e w1 ⟨rfl, p', hA⟩
      have HA2 := Lib.hid (HA1.out.then hA)
      clear hA
      go_wp2
      go_end0
      exact ⟨rfl, p', HA2.out⟩
    · by_cases h0 : s.frm = 0
      · have q1 : (s.frm == 0) = true := by simpa using h0
        clear hc h hr hi hf h0
        generalize s.frm = f at *
        go_enter Tryz.func165, Tryz.ntmps165
        go_wp2_with fail
        refine HRG.out.mono ?_
        rintro e w1 ⟨rfl, p', hA⟩
        have HA2 := Lib.hid (HA1.out.then hA)
        clear hA
        go_wp2
        go_end0
        exact ⟨rfl, p', HA2.out⟩
      · have q1 : (s.frm == 0) = false := by simpa using h0
        clear h hr hi hf h0
        generalize s.frm = f at *
        go_enter Tryz.func165, Tryz.ntmps165
        go_wp2_with fail
        refine HRG.out.mono ?_
        rintro e w1 ⟨rfl, p', hA⟩
        have HA2 := Lib.hid (HA1.out.then hA)
        clear hA
        go_wp2
        go_end0
        exact ⟨rfl, p', HA2.out⟩
  · have hf : frmN s.frm i = s.frm := by unfold frmN; rw [if_neg hc]
    rw [hf]
    change Calls _ _ _ _ (fun e w' => e = .returned (.tuple #[]) ∧ ∃ p', Aft lo w w' b { b with p := p' } s)
    have HRG := Lib.hid (regroup_any i h hr)
    have q1 : (s.frm == 0) = false := by simp; omega
    have q2 : ¬ i < s.frm := by omega
    clear hc h hr hi hf
    generalize s.frm = f at *
    go_enter Tryz.func165, Tryz.ntmps165
    go_wp2_with fail
    refine HRG.out.mono ?_
    rintro e w1 ⟨rfl, p', hA⟩
    have HA2 := Lib.hid hA
    clear hA
    go_wp2
    go_end0
    exact ⟨rfl, p', HA2.out⟩
set_option maxHeartbeats 800000 in
theorem beats_any {lo : Nat} {w : World} {b : PB} {s : AS} (h : Al lo w b s) : Calls Tryz.prog 115 #[.pointer (some ⟨b.nb, 0, none⟩)] w fun e w' => e = .returned (.tuple #[]) ∧ Below w.heap.size w w' := by
  have HM := Lib.hid (h.members w (Below.refl _ _))
  clear h
  go_enter Tryz.func115, Tryz.ntmps115
  go_wp2_with fail
  refine HM.out.mono ?_
  rintro e w1 ⟨rfl, hb⟩
  have HB := Lib.hid hb
  clear hb
  go_wp2
  go_loopw [7] (fun i wr => i = .int .i64 0 ∧ w1 = wr) (fun _ _ => 0)
  case atStart => exact ⟨rfl, rfl⟩
  case round =>
    obtain ⟨rfl, rfl⟩ := hrel
    go_wp2
    go_end0
    exact ⟨rfl, HB.out⟩
set_option maxHeartbeats 800000 in
theorem all_any {lo : Nat} {w : World} {b : PB} {s : AS} (h : Al lo w b s) : Calls Tryz.prog 89 #[.pointer (some ⟨b.nb, 0, none⟩)] w fun e w' => e = .returned (.tuple #[]) ∧ Below w.heap.size w w' := by
  have HM := Lib.hid (h.members w (Below.refl _ _))
  clear h
  go_enter Tryz.func89, Tryz.ntmps89
  go_wp2_with fail
  refine HM.out.mono ?_
  rintro e w1 ⟨rfl, hb⟩
  have HB := Lib.hid hb
  clear hb
  go_wp2
  go_loopw [7] (fun i wr => i = .int .i64 0 ∧ w1 = wr) (fun _ _ => 0)
  case atStart => exact ⟨rfl, rfl⟩
  case round =>
    obtain ⟨rfl, rfl⟩ := hrel
    go_wp2
    go_end0
    exact ⟨rfl, HB.out⟩
/-- the entry that is put behind the last one -/
def entN (s : AS) (kind : Int) (data : List Int) : Rg.En := ⟨s.g.last + 1, s.e.term, kind, data⟩
/-- what add asks: there is room, and the elector's term is not below the log's -/
structure AddOk (s : AS) (kind : Int) (data : List Int) (n : Nat) : Prop where
  top : s.g.last < 1099511627776
  term : s.g.lt ≤ s.e.term
  kind0 : 0 ≤ kind
  kind7 : kind ≤ 7
  kind2 : kind ≠ 2
  data : data.length ≤ 4096
  few : n + 1 ≤ 1000000
def addS (s : AS) (kind : Int) (data : List Int) : AS := { s with g := { s.g with es := s.g.es ++ [entN s kind data] }, frm := frmN s.frm (s.g.last + 1) }
theorem add_ok {lo : Nat} {w : World} {b : PB} {s : AS} {kind : Int} {data : List Int} (h : Al lo w b s) (ho : AddOk s kind data b.xs.length) : Rg.okL [entN s kind data] = true ∧ Rg.fol [entN s kind data] s.g.last s.g.lt = true := by
  have hh := (El.okHard_iff _ _).1 h.el.ok.hard
  have hb := h.lg.ok.b0
  have hl : 0 ≤ s.g.last := by unfold Rg.St.last; omega
  have ht2 : s.e.term ≤ 1099511627776 := hh.1.2
  constructor
  · show (Rg.okE (entN s kind data) && true) = true
    rw [Bool.and_true, Rg.okE_iff]
    have := ho.top; have := ho.kind0; have := ho.kind7; have := ho.data; have := hh.1.1
    refine ⟨?_, ?_, ?_, ?_, ?_, ?_, ?_⟩ <;> simp only [entN] <;> omega
  · have := ho.term
    simp [Rg.fol, entN, this]
theorem ents_one (W : World) (A : Option Addr) (cap : Nat) (e : Rg.En) (hd : Fld.Rd W A e.data.length e.data) (hA : A = none → cap = 0) :
    Rg.RdE (W.alloc (.cells #[.int .i64 e.idx, .int .i64 e.term, .int .i64 e.kind, .slice A e.data.length cap] 68)) (some ⟨W.heap.size, 0, none⟩) 1 [⟨e, A, cap⟩] := by
  have hk := Rg.Blk.new W #[.int .i64 e.idx, .int .i64 e.term, .int .i64 e.kind, .slice A e.data.length cap] 68
  refine ⟨rfl, by unfold maxLen; omega, fun _ => ⟨_, 0, rfl, fun j v hj => ?_⟩, fun x hx => ?_⟩
  · rw [Nat.zero_add]
    refine hk.cell j v ?_
    simpa [Rg.rowE, Rg.EA.cells] using hj
  · simp only [List.mem_singleton] at hx
    subst hx
    exact ⟨hd.below (Rg.alloc_below' _ _), hA⟩
end Go.Proofs.YtnhcbampojpgfaaGreat.Rf
