/-
  Layer 8: the document's own log: New, Last, Term, LastTerm, Newer, Back, Right, right, follow. Conditions: the log lies in memory as it was made.
-/
import Derived.Test.YtafjgaapefhggaaRlgI
import Derived.Test.YtafjgaapefhggaaRlgH
namespace Go.Proofs.Ytafjgaapefhggaa.Rg
open Go.RowKit Go.Proofs.Ytafjgaapefhggaa.Fld
set_option linter.unusedVariables false

def Rb (w : World) (g : Nat) (base bt : Int) (v : Value) (com app : Int) : Prop := Blk w g (lgC base bt v com app) 60
theorem Rb.cells {w : World} {g : Nat} {base bt com app : Int} {v : Value} (h : Rb w g base bt v com app) : w.cell? ⟨g, 0, none⟩ = some (.int .i64 base) ∧ w.cell? ⟨g, 1, none⟩ = some (.int .i64 bt) ∧ w.cell? ⟨g, 2, none⟩ = some v ∧ w.cell? ⟨g, 3, none⟩ = some (.int .i64 com) ∧ w.cell? ⟨g, 4, none⟩ = some (.int .i64 app) :=
  ⟨Blk.cell h 0 _ rfl, Blk.cell h 1 _ rfl, Blk.cell h 2 _ rfl, Blk.cell h 3 _ rfl, Blk.cell h 4 _ rfl⟩
theorem Rb.still {w w' : World} {g : Nat} {base bt com app : Int} {v : Value} (h : Rb w g base bt v com app) (hs : Still w w') : Rb w' g base bt v com app := Blk.still h hs
/-- the document's own log, as what looks at it wants it -/
structure Lr (w : World) (g : Nat) (s : St) (A : Option Addr) (n cap : Nat) (ys : List EA) : Prop where
  lb : Rb w g s.base s.bt (.slice A n cap) s.com s.app
  rd : RdE w A n ys
  es : ens ys = s.es
  b0 : 0 ≤ s.base
  b1 : s.base + n ≤ 1099511627776
theorem Lr.below {w w' : World} {g : Nat} {s : St} {A : Option Addr} {n cap : Nat} {ys : List EA} (h : Lr w g s A n cap ys) (hb : Below w.heap.size w w') : Lr w' g s A n cap ys := ⟨Blk.below h.lb hb, h.rd.below hb, h.es, h.b0, h.b1⟩
theorem Lr.still {w w' : World} {g : Nat} {s : St} {A : Option Addr} {n cap : Nat} {ys : List EA} (h : Lr w g s A n cap ys) (hs : Still w w') : Lr w' g s A n cap ys := h.below (below_still hs (Nat.le_refl _))
theorem Lr.n {w : World} {g : Nat} {s : St} {A : Option Addr} {n cap : Nat} {ys : List EA} (h : Lr w g s A n cap ys) : s.es.length = n := by rw [← h.es, ens_len]; exact h.rd.len
set_option maxRecDepth 100000 in
theorem Lr.last_dr {w : World} {g : Nat} {s : St} {A : Option Addr} {n cap : Nat} {ys : List EA} (h : Lr w g s A n cap ys) : Calls Try.prog 31 #[.pointer (some ⟨g, 0, none⟩)] w fun e w' => e = .returned (.int .i64 s.last) ∧ ∃ m, w' = w.drewN m := by
  rw [show s.last = s.base + n by unfold St.last; rw [h.n]]
  obtain ⟨c0, c1, c2, c3, c4⟩ := h.lb.cells
  have h0 := h.b0
  have h1 := h.b1
  have e2 : wrap64 (s.base + (n : Int)) = s.base + (n : Int) := wrap64_in _ (by omega) (by omega)
  clear h
  go_enter Try.func31, Try.ntmps31
  go_wp2_with fail
  go_quiet (fail)
  go_wp2
  go_ret
  exact ⟨rfl, _, rfl⟩
set_option maxRecDepth 100000 in
set_option maxHeartbeats 1600000 in
theorem Lr.term_dr {w : World} {g : Nat} {s : St} {A : Option Addr} {n cap : Nat} {ys : List EA} (h : Lr w g s A n cap ys) (i : Int) : Calls Try.prog 15 #[.pointer (some ⟨g, 0, none⟩), .int .i64 i] w fun e w' => e = .returned (.tuple #[.int .i64 (termV s i), .bool (termB s i)]) ∧ ∃ m, w' = w.drewN m := by
  have HL := Lib.hid h
  have hsl : s.last = s.base + n := by unfold St.last; rw [h.n]
  have HLA := Lib.hid h.last_dr
  have hb0 := h.b0
  have hb1 := h.b1
  obtain ⟨c0, c1, c2, c3, c4⟩ := h.lb.cells
  by_cases hc : i = s.base
  · have hbb : termB s i = true := by rw [termB_iff]; omega
    have hv : termV s i = s.bt := by unfold termV entT; rw [if_pos hbb, if_pos (by omega)]
    rw [hbb, hv]
    have b1 : (i == s.base) = true := by rw [beq_iff_eq]; exact hc
    clear hbb hv hc h hsl
    go_enter Try.func15, Try.ntmps15
    go_wp2
    go_ret2
    exact ⟨rfl, 0, rfl⟩
  have b1 : (i == s.base) = false := by rw [beq_eq_false_iff_ne]; exact hc
  by_cases ha : i < s.base
  · have hb : termB s i = false := by rw [Bool.eq_false_iff]; intro hh; rw [termB_iff] at hh; omega
    have hv : termV s i = 0 := by unfold termV; rw [hb]; rfl
    rw [hb, hv]
    clear hb hv h hc hsl
    go_enter Try.func15, Try.ntmps15
    go_wp2
    go_ret2
    exact ⟨rfl, 0, rfl⟩
  by_cases hb : s.last < i
  · have hbb : termB s i = false := by rw [Bool.eq_false_iff]; intro hh; rw [termB_iff] at hh; omega
    have hv : termV s i = 0 := by unfold termV; rw [hbb]; rfl
    rw [hbb, hv]
    clear hbb hv h hc hsl
    go_enter Try.func15, Try.ntmps15
    go_wp2_with fail
    refine HLA.out.mono ?_
    rintro e w' ⟨rfl, m, rfl⟩
    go_wp2
    go_ret2
    exact ⟨rfl, _, rfl⟩
  have hbb : termB s i = true := by rw [termB_iff]; omega
  obtain ⟨k, hk⟩ : ∃ k : Nat, i = s.base + 1 + k := ⟨(i - s.base - 1).toNat, by omega⟩
  have hkn : k < n := by omega
  have hv : termV s i = (ys.getD k ea0).e.term := by
    unfold termV entT
    rw [if_pos hbb, if_neg (by omega), show (i - s.base).toNat - 1 = k by omega, ← h.es, ens_at _ _ (by have := h.rd.len; omega)]
  rw [hbb, hv]
  obtain ⟨b, off, rfl, q0, q1, q2, q3⟩ := h.rd.elem k hkn
  generalize (ys.getD k ea0).e.term = T at *
  have ew : IntKind.i64.wrap (IntKind.i64.wrap (i - 1) - s.base) = (k : Int) := by
    rw [wrap_in (i - 1) (by omega) (by omega), wrap_in _ (by omega) (by omega)]
    omega
  have EW := Lib.hid ew
  have g0 : (0 : Int) ≤ (k : Int) := by omega
  have g1 : (k : Int) < (n : Int) := by omega
  clear hbb hv h hc hsl ew q0 q2 q3 hk
  go_enter Try.func15, Try.ntmps15
  go_wp2_with fail
  refine HLA.out.mono ?_
  rintro e w1 ⟨rfl, hm⟩
  have HM := Lib.hid hm
  have HS := Lib.hid (show Still w w1 by obtain ⟨m, rfl⟩ := hm; exact still_drewN _ _)
  clear hm
  obtain ⟨d0, d1, d2, d3, d4⟩ := (HL.out.still HS.out).lb.cells
  have q1' := (HS.out.cell _).trans q1
  have ew := EW.out
  go_wp2_with fail
  go_quiet (fail)
  clear ew
  go_wp2
  go_ret2
  obtain ⟨m, rfl⟩ := HM.out
  exact ⟨rfl, _, World.drewN_drewN _ _ _⟩
set_option maxRecDepth 100000 in
theorem Lr.lastTerm_dr {w : World} {g : Nat} {s : St} {A : Option Addr} {n cap : Nat} {ys : List EA} (h : Lr w g s A n cap ys) : Calls Try.prog 46 #[.pointer (some ⟨g, 0, none⟩)] w fun e w' => e = .returned (.int .i64 s.lt) ∧ ∃ m, w' = w.drewN m := by
  have HLA := Lib.hid h.last_dr
  have HTE := Lib.hid (fun W (hs : Still w W) => (h.still hs).term_dr s.last)
  rw [(termV_last s).2] at HTE
  clear h
  generalize s.lt = T at *
  generalize termB s s.last = B at *
  generalize s.last = L at *
  go_enter Try.func46, Try.ntmps46
  go_wp2_with fail
  refine HLA.out.mono ?_
  rintro e w' ⟨rfl, m, rfl⟩
  go_wp2_with fail
  refine (HTE.out _ (still_drewN _ _)).mono ?_
  rintro e w' ⟨rfl, m2, rfl⟩
  go_wp2
  go_ret
  exact ⟨rfl, _, rfl⟩
set_option maxRecDepth 100000 in
theorem Lr.newer_dr {w : World} {g : Nat} {s : St} {A : Option Addr} {n cap : Nat} {ys : List EA} (h : Lr w g s A n cap ys) (i t : Int) : Calls Try.prog 22 #[.pointer (some ⟨g, 0, none⟩), .int .i64 i, .int .i64 t] w fun e w' => e = .returned (.bool (newB s i t)) ∧ ∃ m, w' = w.drewN m := by
  have HLT := Lib.hid h.lastTerm_dr
  have HLA := Lib.hid (fun W (hW : Still w W) => (h.still hW).last_dr)
  have he : newB s i t = (decide (s.lt < t) || (t == s.lt && decide (s.last ≤ i))) := rfl
  rw [he]
  clear h he
  generalize s.lt = T at *
  generalize s.last = L at *
  by_cases h1 : T < t
  · rw [decide_eq_true h1]
    go_enter Try.func22, Try.ntmps22
    go_wp2_with fail
    refine HLT.out.mono ?_
    rintro e w1 ⟨rfl, m, rfl⟩
    go_wp2
    go_ret
    exact ⟨rfl, _, rfl⟩
  · rw [decide_eq_false h1]
    by_cases h2 : t = T
    · subst h2
      go_enter Try.func22, Try.ntmps22
      go_wp2_with fail
      refine HLT.out.mono ?_
      rintro e w1 ⟨rfl, m, rfl⟩
      go_wp2_with fail
      refine (HLA.out _ (still_drewN _ _)).mono ?_
      rintro e w1 ⟨rfl, m2, rfl⟩
      go_wp2
      go_ret
      exact ⟨by simp, _, rfl⟩
    · have h3 : (t == T) = false := by simpa using h2
      rw [h3]
      go_enter Try.func22, Try.ntmps22
      go_wp2_with fail
      refine HLT.out.mono ?_
      rintro e w1 ⟨rfl, m, rfl⟩
      go_wp2
      go_ret
      exact ⟨ret_bool (by rw [decide_eq_false (by omega)]; rfl), _, rfl⟩
set_option maxRecDepth 100000 in
set_option maxHeartbeats 1600000 in
theorem Lr.back_any {w : World} {g : Nat} {s : St} {A : Option Addr} {n cap : Nat} {ys : List EA} (h : Lr w g s A n cap ys) (ok : s.Ok) (i t : Int) (hi : -9223372036854775808 ≤ i) :
    Calls Try.prog 20 #[.pointer (some ⟨g, 0, none⟩), .int .i64 i, .int .i64 t] w fun e w' => ∃ u : Nat, e = .returned (.int .i64 (s.base + u)) ∧ BackU s (backM s i) t u ∧ Still w w' := by
  have HL := Lib.hid h
  have hb0 := h.b0
  have hsl : s.last = s.base + n := by unfold St.last; rw [h.n]
  have hb1 := h.b1
  have HN := Lib.hid h.n
  have HOK := Lib.hid ok
  clear h ok
  obtain ⟨m0, hm0⟩ : ∃ m0, min i s.last = m0 := ⟨_, rfl⟩
  have hmle : m0 ≤ s.last := by omega
  have hmlo : -9223372036854775808 ≤ m0 := by omega
  have HBM := Lib.hid (show backM s i = (m0 - s.base).toNat by unfold backM; rw [hm0])
  have HM0 := Lib.hid hm0
  have HSL := Lib.hid hsl
  have hm1 : m0 ≤ 1099511627776 := by omega
  clear hm0 hsl
  go_enter Try.func20, Try.ntmps20
  go_wp2_with fail
  refine HL.out.last_dr.mono ?_
  rintro e w1 ⟨rfl, hw⟩
  have HS1 := Lib.hid (show Still w w1 by obtain ⟨k, rfl⟩ := hw; exact still_drewN _ _)
  clear hw
  go_wp2
  all_goals
    go_loopw [7] (fun kv wr => ∃ x : Int, kv = .int .i64 x ∧ x ≤ m0 ∧ (x = m0 ∨ s.base ≤ x) ∧ (∀ k : Nat, x - s.base ≤ k → k < (m0 - s.base).toNat → t < entT s (k + 1)) ∧ Still w wr) (fun kv _ => (intOf kv - s.base).toNat)
    case atStart => exact ⟨m0, by have := HM0.out; congr 1; first | omega | (simp only [Int.min_def] at this ⊢; omega), Int.le_refl _, .inl rfl, (fun k h1 h2 => by omega), HS1.out⟩
    case round =>
      obtain ⟨x, rfl, hx1, hx2, hx3, hst⟩ := hrel
      have HX2 := Lib.hid hx2
      have HX3 := Lib.hid hx3
      have HST := Lib.hid hst
      clear hx2 hx3 hst
      obtain ⟨d0, d1, d2, d3, d4⟩ := (HL.out.still HST.out).lb.cells
      by_cases hgt : s.base < x
      · obtain ⟨k, hk⟩ : ∃ k : Nat, x = s.base + 1 + k := ⟨(x - s.base - 1).toNat, by omega⟩
        have HT := Lib.hid (show termV s x = entT s (k + 1) by
          unfold termV
          rw [if_pos (by rw [termB_iff]; omega), show (x - s.base).toNat = k + 1 by omega])
        have HTD := Lib.hid ((HL.out.still HST.out).term_dr x)
        rw [HT.out] at HTD
        have HK := Lib.hid hk
        have hkM : k < (m0 - s.base).toNat := by omega
        have HKM := Lib.hid hkM
        clear hk hkM
        go_wp2_with fail
        refine HTD.out.mono ?_
        rintro e w2 ⟨rfl, hw2⟩
        have HS2 := Lib.hid (HST.out.trans (show Still wr w2 by obtain ⟨k, rfl⟩ := hw2; exact still_drewN _ _))
        clear hw2
        by_cases hle : entT s (k + 1) ≤ t
        · go_wp2
          go_ret
          refine ⟨k + 1, by rw [HK.out]; go_num, ⟨by rw [HBM.out]; exact HKM.out, fun j hj => ?_, fun j h1 h2 => HX3.out j (by have := HK.out; omega) (by rw [← HBM.out]; exact h2)⟩, HS2.out⟩
          have := entT_mono HOK.out (j + 1) (k + 1) (by omega) (by have := HKM.out; have := HN.out; have := HSL.out; omega)
          omega
        · have hgt2 := hle
          go_wp2
          go_roundw
          case rel => exact ⟨x - 1, rfl, by omega, .inr (by omega), (fun j h1 h2 => by
            rcases Nat.lt_or_ge k j with h3 | h3
            · exact HX3.out j (by have := HK.out; omega) h2
            · have := HK.out
              have hjk : j = k := by omega
              rw [hjk]
              omega), HS2.out⟩
          case measure => simp [intOf]; omega
      · go_wp2
        go_ret
        exact ⟨0, by simp, ⟨Nat.zero_le _, (fun j hj => by omega), fun j h1 h2 => HX3.out j (by omega) (by rw [← HBM.out]; exact h2)⟩, HST.out⟩
end Go.Proofs.Ytafjgaapefhggaa.Rg
