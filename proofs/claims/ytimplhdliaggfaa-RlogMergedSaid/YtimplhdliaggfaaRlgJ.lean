/-
  Layer 8: the document's own log: New, Last, Term, LastTerm, Newer, Back, Right, right, follow. Conditions: the log lies in memory as it was made.
-/
import Derived.Test.YtimplhdliaggfaaRlgI
import Derived.Test.YtimplhdliaggfaaRlgH
namespace Go.Proofs.Ytimplhdliaggfaa.Rg
open Go.RowKit Go.Proofs.Ytimplhdliaggfaa.Fld
set_option linter.unusedVariables false

def Rb (w : World) (g : Nat) (base bt : Int) (v : Value) (com app : Int) : Prop := Blk w g (lgC base bt v com app) 64
theorem Rb.cells {w : World} {g : Nat} {base bt com app : Int} {v : Value} (h : Rb w g base bt v com app) : w.cell? ⟨g, 0, none⟩ = some (.int .i64 base) ∧ w.cell? ⟨g, 1, none⟩ = some (.int .i64 bt) ∧ w.cell? ⟨g, 2, none⟩ = some v ∧ w.cell? ⟨g, 3, none⟩ = some (.int .i64 com) ∧ w.cell? ⟨g, 4, none⟩ = some (.int .i64 app) :=
  ⟨Blk.cell h 0 _ rfl, Blk.cell h 1 _ rfl, Blk.cell h 2 _ rfl, Blk.cell h 3 _ rfl, Blk.cell h 4 _ rfl⟩
theorem Rb.still {w w' : World} {g : Nat} {base bt com app : Int} {v : Value} (h : Rb w g base bt v com app) (hs : Still w w') : Rb w' g base bt v com app := Blk.still h hs
/-- the document's own log, as what looks at it wants it -/
structure Lr (w : World) (g : Nat) (s : St) (A : Option Addr) (n cap : Nat) (ys : List EA) : Prop where
  lb : Rb w g s.base s.bt (.slice A n cap) s.com s.app
  rd : RdE w A n ys
  es : ens ys = s.es
  b0 : 0 ≤ s.base
  b1 : s.base + n ≤ 1099511627776
theorem Lr.below {w w' : World} {g : Nat} {s : St} {A : Option Addr} {n cap : Nat} {ys : List EA} (h : Lr w g s A n cap ys) (hb : Below w.heap.size w w') : Lr w' g s A n cap ys := ⟨Blk.below h.lb hb, h.rd.below hb, h.es, h.b0, h.b1⟩
theorem Lr.still {w w' : World} {g : Nat} {s : St} {A : Option Addr} {n cap : Nat} {ys : List EA} (h : Lr w g s A n cap ys) (hs : Still w w') : Lr w' g s A n cap ys := h.below (below_still hs (Nat.le_refl _))
theorem Lr.n {w : World} {g : Nat} {s : St} {A : Option Addr} {n cap : Nat} {ys : List EA} (h : Lr w g s A n cap ys) : s.es.length = n := by rw [← h.es, ens_len]; exact h.rd.len
set_option maxRecDepth 100000 in
theorem Lr.last_dr {w : World} {g : Nat} {s : St} {A : Option Addr} {n cap : Nat} {ys : List EA} (h : Lr w g s A n cap ys) : Calls Try.prog 43 #[.pointer (some ⟨g, 0, none⟩)] w fun e w' => e = .returned (.int .i64 s.last) ∧ ∃ m, w' = w.drewN m := by
  rw [show s.last = s.base + n by unfold St.last; rw [h.n]]
  obtain ⟨c0, c1, c2, c3, c4⟩ := h.lb.cells
  have h0 := h.b0
  have h1 := h.b1
  have e2 : wrap64 (s.base + (n : Int)) = s.base + (n : Int) := wrap64_in _ (by omega) (by omega)
  clear h
  go_enter Try.func43, Try.ntmps43
  go_wp2_with fail
  go_quiet (fail)
  go_wp2
  go_ret
  exact ⟨rfl, _, rfl⟩
set_option maxRecDepth 100000 in
set_option maxHeartbeats 1600000 in
theorem Lr.term_dr {w : World} {g : Nat} {s : St} {A : Option Addr} {n cap : Nat} {ys : List EA} (h : Lr w g s A n cap ys) (i : Int) : Calls Try.prog 45 #[.pointer (some ⟨g, 0, none⟩), .int .i64 i] w fun e w' => e = .returned (.tuple #[.int .i64 (termV s i), .bool (termB s i)]) ∧ ∃ m, w' = w.drewN m := by
  have HL := Lib.hid h
  have hsl : s.last = s.base + n := by unfold St.last; rw [h.n]
  have HLA := Lib.hid h.last_dr
  have hb0 := h.b0
  have hb1 := h.b1
  obtain ⟨c0, c1, c2, c3, c4⟩ := h.lb.cells
  by_cases hc : i = s.base
  · have hbb : termB s i = true := by rw [termB_iff]; omega
    have hv : termV s i = s.bt := by unfold termV entT; rw [if_pos hbb, if_pos (by omega)]
    rw [hbb, hv]
    have b1 : (i == s.base) = true := by rw [beq_iff_eq]; exact hc
    clear hbb hv hc h hsl
    go_enter Try.func45, Try.ntmps45
    go_wp2
    go_ret2
    exact ⟨rfl, 0, rfl⟩
  have b1 : (i == s.base) = false := by rw [beq_eq_false_iff_ne]; exact hc
  by_cases ha : i < s.base
  · have hb : termB s i = false := by rw [Bool.eq_false_iff]; intro hh; rw [termB_iff] at hh; omega
    have hv : termV s i = 0 := by unfold termV; rw [hb]; rfl
    rw [hb, hv]
    clear hb hv h hc hsl
    go_enter Try.func45, Try.ntmps45
    go_wp2
    go_ret2
    exact ⟨rfl, 0, rfl⟩
  by_cases hb : s.last < i
  · have hbb : termB s i = false := by rw [Bool.eq_false_iff]; intro hh; rw [termB_iff] at hh; omega
    have hv : termV s i = 0 := by unfold termV; rw [hbb]; rfl
    rw [hbb, hv]
    clear hbb hv h hc hsl
    go_enter Try.func45, Try.ntmps45
    go_wp2_with fail
    refine HLA.out.mono ?_
    rintro e w' ⟨rfl, m, rfl⟩
    go_wp2
    go_ret2
    exact ⟨rfl, _, rfl⟩
  have hbb : termB s i = true := by rw [termB_iff]; omega
  obtain ⟨k, hk⟩ : ∃ k : Nat, i = s.base + 1 + k := ⟨(i - s.base - 1).toNat, by omega⟩
  have hkn : k < n := by omega
  have hv : termV s i = (ys.getD k ea0).e.term := by
    unfold termV entT
    rw [if_pos hbb, if_neg (by omega), show (i - s.base).toNat - 1 = k by omega, ← h.es, ens_at _ _ (by have := h.rd.len; omega)]
  rw [hbb, hv]
  obtain ⟨b, off, rfl, q0, q1, q2, q3⟩ := h.rd.elem k hkn
  generalize (ys.getD k ea0).e.term = T at *
  have ew : IntKind.i64.wrap (IntKind.i64.wrap (i - 1) - s.base) = (k : Int) := by
    rw [wrap_in (i - 1) (by omega) (by omega), wrap_in _ (by omega) (by omega)]
    omega
  have EW := Lib.hid ew
  have g0 : (0 : Int) ≤ (k : Int) := by omega
  have g1 : (k : Int) < (n : Int) := by omega
  clear hbb hv h hc hsl ew q0 q2 q3 hk
  go_enter Try.func45, Try.ntmps45
  go_wp2_with fail
  refine HLA.out.mono ?_
  rintro e w1 ⟨rfl, hm⟩
  have HM := Lib.hid hm
  have HS := Lib.hid (show Still w w1 by obtain ⟨m, rfl⟩ := hm; exact still_drewN _ _)
  clear hm
  obtain ⟨d0, d1, d2, d3, d4⟩ := (HL.out.still HS.out).lb.cells
  have q1' := (HS.out.cell _).trans q1
  have ew := EW.out
  go_wp2_with fail
  go_quiet (fail)
  clear ew
  go_wp2
  go_ret2
  obtain ⟨m, rfl⟩ := HM.out
  exact ⟨rfl, _, World.drewN_drewN _ _ _⟩
set_option maxRecDepth 100000 in
theorem Lr.lastTerm_dr {w : World} {g : Nat} {s : St} {A : Option Addr} {n cap : Nat} {ys : List EA} (h : Lr w g s A n cap ys) : Calls Try.prog 44 #[.pointer (some ⟨g, 0, none⟩)] w fun e w' => e = .returned (.int .i64 s.lt) ∧ ∃ m, w' = w.drewN m := by
  have HLA := Lib.hid h.last_dr
  have HTE := Lib.hid (fun W (hs : Still w W) => (h.still hs).term_dr s.last)
  rw [(termV_last s).2] at HTE
  clear h
  generalize s.lt = T at *
  generalize termB s s.last = B at *
  generalize s.last = L at *
  go_enter Try.func44, Try.ntmps44
  go_wp2_with fail
  refine HLA.out.mono ?_
  rintro e w' ⟨rfl, m, rfl⟩
  go_wp2_with fail
  refine (HTE.out _ (still_drewN _ _)).mono ?_
  rintro e w' ⟨rfl, m2, rfl⟩
  go_wp2
  go_ret
  exact ⟨rfl, _, rfl⟩
end Go.Proofs.Ytimplhdliaggfaa.Rg
