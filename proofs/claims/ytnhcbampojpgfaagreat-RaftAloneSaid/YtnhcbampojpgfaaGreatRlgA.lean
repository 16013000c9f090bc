/-
  Layer 8: the program's log, what only looks at it: First, Last, Committed, Applied, place, Term, lastTerm, validIndex, has. Conditions: the log lies in memory as it was made.
-/
import Derived.Test.YtnhcbampojpgfaaGreatRlgMem
namespace Go.Proofs.YtnhcbampojpgfaaGreat.Rg
open Go.RowKit Go.Proofs.YtnhcbampojpgfaaGreat.Fld
set_option linter.unusedVariables false

/-- the fields of the program's log -/
def lgC (base bt : Int) (v : Value) (com app : Int) : Array Value := #[.int .i64 base, .int .i64 bt, v, .int .i64 com, .int .i64 app]
def Lb (w : World) (g : Nat) (base bt : Int) (v : Value) (com app : Int) : Prop := Blk w g (lgC base bt v com app) 150
theorem Lb.cells {w : World} {g : Nat} {base bt com app : Int} {v : Value} (h : Lb w g base bt v com app) : w.cell? ⟨g, 0, none⟩ = some (.int .i64 base) ∧ w.cell? ⟨g, 1, none⟩ = some (.int .i64 bt) ∧ w.cell? ⟨g, 2, none⟩ = some v ∧ w.cell? ⟨g, 3, none⟩ = some (.int .i64 com) ∧ w.cell? ⟨g, 4, none⟩ = some (.int .i64 app) :=
  ⟨Blk.cell h 0 _ rfl, Blk.cell h 1 _ rfl, Blk.cell h 2 _ rfl, Blk.cell h 3 _ rfl, Blk.cell h 4 _ rfl⟩
theorem Lb.still {w w' : World} {g : Nat} {base bt com app : Int} {v : Value} (h : Lb w g base bt v com app) (hs : Still w w') : Lb w' g base bt v com app := Blk.still h hs
theorem quiet_dr {P : Program} {f : FuncId} {args : Array Value} {W w : World} {v : Value} (hW : ∃ n, W = w.drewN n) (h : Calls P f args W fun e w' => e = .returned v ∧ ∃ m, w' = W.drewN m) : Calls P f args W fun e w'' => e = .returned v ∧ ∃ m, w'' = w.drewN m := by
  obtain ⟨n, rfl⟩ := hW
  exact h.mono fun _ _ ⟨he, m, hm⟩ => ⟨he, n + m, by rw [hm, World.drewN_drewN]⟩
theorem quiet_eq {P : Program} {f : FuncId} {args : Array Value} {W w : World} {v : Value} (hW : ∃ n, W = w.drewN n) (h : Calls P f args W fun e w' => e = .returned v ∧ W = w') : Calls P f args W fun e w'' => e = .returned v ∧ ∃ m, w'' = w.drewN m := by
  obtain ⟨n, rfl⟩ := hW
  exact h.mono fun _ _ ⟨he, hm⟩ => ⟨he, n, hm.symm⟩
theorem still_drewN (w : World) (n : Nat) : Still w (w.drewN n) := Still.drewN (Still.refl _) _

set_option maxRecDepth 100000 in
theorem first_any (g : Nat) (base bt com app : Int) (v : Value) (w : World) (h : Lb w g base bt v com app) (h0 : 0 ≤ base) (h1 : base ≤ 1099511627776) : Calls Tryz.prog 47 #[.pointer (some ⟨g, 0, none⟩)] w fun e w' => e = .returned (.int .i64 (base + 1)) ∧ w = w' := by
  obtain ⟨c0, c1, c2, c3, c4⟩ := h.cells
  clear h
  go_enter Tryz.func47, Tryz.ntmps47
  go_wp2
  go_ret
  exact ⟨rfl, rfl⟩
set_option maxRecDepth 100000 in
theorem committed_any (g : Nat) (base bt com app : Int) (v : Value) (w : World) (h : Lb w g base bt v com app) : Calls Tryz.prog 38 #[.pointer (some ⟨g, 0, none⟩)] w fun e w' => e = .returned (.int .i64 com) ∧ w = w' := by
  obtain ⟨c0, c1, c2, c3, c4⟩ := h.cells
  clear h
  go_enter Tryz.func38, Tryz.ntmps38
  go_wp2
  go_ret
  exact ⟨rfl, rfl⟩
set_option maxRecDepth 100000 in
theorem applied_any (g : Nat) (base bt com app : Int) (v : Value) (w : World) (h : Lb w g base bt v com app) : Calls Tryz.prog 86 #[.pointer (some ⟨g, 0, none⟩)] w fun e w' => e = .returned (.int .i64 app) ∧ w = w' := by
  obtain ⟨c0, c1, c2, c3, c4⟩ := h.cells
  clear h
  go_enter Tryz.func86, Tryz.ntmps86
  go_wp2
  go_ret
  exact ⟨rfl, rfl⟩
set_option maxRecDepth 100000 in
theorem last_dr (g : Nat) (base bt com app : Int) (A : Option Addr) (n cap : Nat) (w : World) (h : Lb w g base bt (.slice A n cap) com app) (h0 : 0 ≤ base) (h1 : base + n ≤ 1099511627776) : Calls Tryz.prog 39 #[.pointer (some ⟨g, 0, none⟩)] w fun e w' => e = .returned (.int .i64 (base + n)) ∧ ∃ m, w' = w.drewN m := by
  obtain ⟨c0, c1, c2, c3, c4⟩ := h.cells
  have e2 : wrap64 (base + (n : Int)) = base + (n : Int) := by unfold wrap64; omega
  clear h
  go_enter Tryz.func39, Tryz.ntmps39
  go_wp2_with fail
  go_quiet (fail)
  go_wp2
  go_ret
  exact ⟨rfl, _, rfl⟩
set_option maxRecDepth 100000 in
theorem place_any (g : Nat) (base bt com app : Int) (v : Value) (i : Int) (w : World) (h : Lb w g base bt v com app) (h0 : 0 ≤ base) (h1 : base ≤ 1099511627776) (hi : base < i) (hi2 : i ≤ 1099511627776) : Calls Tryz.prog 90 #[.pointer (some ⟨g, 0, none⟩), .int .i64 i] w fun e w' => e = .returned (.int .i64 (i - base - 1)) ∧ w = w' := by
  obtain ⟨c0, c1, c2, c3, c4⟩ := h.cells
  clear h
  go_enter Tryz.func90, Tryz.ntmps90
  go_wp2
  go_ret
  exact ⟨rfl, rfl⟩
set_option maxRecDepth 100000 in
set_option maxHeartbeats 1600000 in
/-- Term: what it tells, of the cells -/
theorem term_dr (g : Nat) (base bt com app i : Int) (A : Option Addr) (n cap : Nat) (xs : List EA) (w : World) (h : Lb w g base bt (.slice A n cap) com app) (hr : RdE w A n xs) (h0 : 0 ≤ base) (h1 : base + n ≤ 1099511627776) :
    Calls Tryz.prog 82 #[.pointer (some ⟨g, 0, none⟩), .int .i64 i] w fun e w' => e = .returned (.tuple #[.int .i64 (termV ⟨base, bt, ens xs, com, app⟩ i), .bool (termB ⟨base, bt, ens xs, com, app⟩ i)]) ∧ ∃ m, w' = w.drewN m := by
  have hl := hr.len
  have HLA := Lib.hid (last_dr g base bt com app A n cap w h h0 h1)
  have HPL := Lib.hid (fun hi hi2 => place_any g base bt com app (.slice A n cap) i w h h0 (by omega) hi hi2)
  obtain ⟨c0, c1, c2, c3, c4⟩ := h.cells
  have HH := Lib.hid h
  clear h
  by_cases ha : i < base
  · have hb : termB ⟨base, bt, ens xs, com, app⟩ i = false := by simp [termB]; omega
    have hv : termV ⟨base, bt, ens xs, com, app⟩ i = 0 := by unfold termV; rw [hb]; rfl
    rw [hb, hv]
    clear hb hv hl hr
    go_enter Tryz.func82, Tryz.ntmps82
    go_wp2
    go_ret2
    exact ⟨rfl, 0, rfl⟩
  by_cases hb : base + n < i
  · have hbb : termB ⟨base, bt, ens xs, com, app⟩ i = false := by simp [termB, St.last, ens_len]; omega
    have hv : termV ⟨base, bt, ens xs, com, app⟩ i = 0 := by unfold termV; rw [hbb]; rfl
    rw [hbb, hv]
    clear hbb hv hl hr
    go_enter Tryz.func82, Tryz.ntmps82
    go_wp2_with fail
    refine HLA.out.mono ?_
    rintro e w' ⟨rfl, m, rfl⟩
    go_wp2
    go_ret2
    exact ⟨rfl, _, rfl⟩
  have hbb : termB ⟨base, bt, ens xs, com, app⟩ i = true := by simp [termB, St.last, ens_len]; omega
  have hv : termV ⟨base, bt, ens xs, com, app⟩ i = entT ⟨base, bt, ens xs, com, app⟩ (i - base).toNat := by unfold termV; rw [if_pos hbb]
  rw [hbb, hv]
  clear hbb hv
  by_cases hc : i = base
  · subst hc
    have he : entT ⟨i, bt, ens xs, com, app⟩ (i - i).toNat = bt := by unfold entT; rw [if_pos (by omega)]
    rw [he]
    clear he hl hr
    go_enter Tryz.func82, Tryz.ntmps82
    go_wp2_with fail
    refine HLA.out.mono ?_
    rintro e w' ⟨rfl, m, rfl⟩
    go_wp2
    go_ret2
    exact ⟨rfl, _, rfl⟩
  · obtain ⟨k, hk⟩ : ∃ k : Nat, i = base + 1 + k := ⟨(i - base - 1).toNat, by omega⟩
    have hkn : k < n := by omega
    have he : entT ⟨base, bt, ens xs, com, app⟩ (i - base).toNat = (xs.getD k ea0).e.term := by
      unfold entT
      rw [if_neg (by omega), show (i - base).toNat - 1 = k by omega]
      simp only
      rw [ens_at _ _ (by omega)]
    rw [he]
    obtain ⟨b, off, rfl, q0, q1, q2, q3⟩ := hr.elem k hkn
    clear he hr
    generalize (xs.getD k ea0).e.term = T at *
    clear q0 q2 q3
    have hcn : ¬ base = i := fun h => hc h.symm
    have hd : i - base - 1 = (k : Int) := by omega
    have g0 : (0 : Int) ≤ (k : Int) := by omega
    have g1 : (k : Int) < (n : Int) := by omega
    have HP2 := Lib.hid (fun W (hW : Lb W g base bt (.slice (some ⟨b, off, none⟩) n cap) com app) => place_any g base bt com app (.slice (some ⟨b, off, none⟩) n cap) i W hW h0 (by omega) (by omega) (by omega))
    rw [hd] at HP2
    clear hk hd
    clear HPL
    go_enter Tryz.func82, Tryz.ntmps82
    go_wp2_with fail
    refine HLA.out.mono ?_
    rintro e w1 ⟨rfl, hm⟩
    have HM := Lib.hid hm
    have HS := Lib.hid (show Still w w1 by obtain ⟨m, rfl⟩ := hm; exact still_drewN _ _)
    clear hm
    obtain ⟨d0, d1, d2, d3, d4⟩ := (HH.out.still HS.out).cells
    have q1' := (HS.out.cell _).trans q1
    go_wp2_with fail
    go_quiet ((go_at_call 90; exact quiet_eq ⟨_, rfl⟩ (HP2.out _ (HH.out.still (HS.out.drewN _)))))
    go_wp2
    go_ret2
    obtain ⟨m, rfl⟩ := HM.out
    exact ⟨rfl, _, World.drewN_drewN _ _ _⟩
set_option maxRecDepth 100000 in
theorem lastTerm_dr (g : Nat) (base bt com app : Int) (A : Option Addr) (n cap : Nat) (xs : List EA) (w : World) (h : Lb w g base bt (.slice A n cap) com app) (hr : RdE w A n xs) (h0 : 0 ≤ base) (h1 : base + n ≤ 1099511627776) :
    Calls Tryz.prog 99 #[.pointer (some ⟨g, 0, none⟩)] w fun e w' => e = .returned (.int .i64 (lastT bt (ens xs))) ∧ ∃ m, w' = w.drewN m := by
  have HLA := Lib.hid (last_dr g base bt com app A n cap w h h0 h1)
  have HTE := Lib.hid (fun W (hs : Still w W) => term_dr g base bt com app (base + n) A n cap xs W (h.still hs) (hr.still hs) h0 h1)
  have he := (termV_last ⟨base, bt, ens xs, com, app⟩).2
  rw [show St.last ⟨base, bt, ens xs, com, app⟩ = base + n by simp only [St.last, ens_len, hr.len], show St.lt ⟨base, bt, ens xs, com, app⟩ = lastT bt (ens xs) from rfl] at he
  rw [he] at HTE
  clear he h hr
  generalize termB ⟨base, bt, ens xs, com, app⟩ (base + n) = B at *
  generalize lastT bt (ens xs) = T at *
  go_enter Tryz.func99, Tryz.ntmps99
  go_wp2_with fail
  refine HLA.out.mono ?_
  rintro e w' ⟨rfl, m, rfl⟩
  go_wp2_with fail
  refine (HTE.out _ (still_drewN _ _)).mono ?_
  rintro e w' ⟨rfl, m2, rfl⟩
  go_wp2
  go_ret
  exact ⟨rfl, _, rfl⟩
theorem validIndex_any (n : Int) (w : World) : Calls Tryz.prog 96 #[.int .i64 n] w fun e w' => e = .returned (.bool (okN n)) ∧ w = w' := by
  have he : okN n = (decide (0 ≤ n) && decide (n ≤ 1099511627776)) := rfl
  by_cases h0 : 0 ≤ n
  · by_cases h1 : n ≤ 1099511627776
    · rw [he, decide_eq_true h0, decide_eq_true h1]
      clear he
      go_enter Tryz.func96, Tryz.ntmps96
      go_wp2
      go_ret
      exact ⟨rfl, rfl⟩
    · have h2 : decide (n ≤ 1099511627776) = false := decide_eq_false h1
      rw [he, decide_eq_true h0, h2]
      clear he
      go_enter Tryz.func96, Tryz.ntmps96
      go_wp2
      go_ret
      exact ⟨rfl, rfl⟩
  · have h2 : decide (0 ≤ n) = false := decide_eq_false h0
    rw [he, h2]
    clear he
    go_enter Tryz.func96, Tryz.ntmps96
    go_wp2
    go_ret
    exact ⟨rfl, rfl⟩
set_option maxRecDepth 100000 in
/-- has, asked by Term -/
theorem has_dr (g : Nat) (base bt com app i t : Int) (A : Option Addr) (n cap : Nat) (xs : List EA) (w : World) (h : Lb w g base bt (.slice A n cap) com app) (hr : RdE w A n xs) (h0 : 0 ≤ base) (h1 : base + n ≤ 1099511627776) :
    Calls Tryz.prog 267 #[.pointer (some ⟨g, 0, none⟩), .int .i64 i, .int .i64 t, .func (.func 82) #[] #[]] w fun e w' => e = .returned (.bool (hasB ⟨base, bt, ens xs, com, app⟩ i t)) ∧ ∃ m, w' = w.drewN m := by
  have HTE := Lib.hid (term_dr g base bt com app i A n cap xs w h hr h0 h1)
  have he : hasB ⟨base, bt, ens xs, com, app⟩ i t = (termB ⟨base, bt, ens xs, com, app⟩ i && (termV ⟨base, bt, ens xs, com, app⟩ i == t)) := rfl
  rw [he]
  clear he h hr
  generalize termV ⟨base, bt, ens xs, com, app⟩ i = V at *
  generalize termB ⟨base, bt, ens xs, com, app⟩ i = B at *
  cases B
  all_goals
    go_enter Tryz.func267, Tryz.ntmps267
    go_wp2_with fail
    refine HTE.out.mono ?_
    rintro e w' ⟨rfl, m, rfl⟩
    go_wp2
    go_ret
    exact ⟨rfl, _, rfl⟩
end Go.Proofs.YtnhcbampojpgfaaGreat.Rg
