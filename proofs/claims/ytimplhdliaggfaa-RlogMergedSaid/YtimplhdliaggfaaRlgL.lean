/-
  Layer 8: the document's own log: Add, Commit, Apply, Reset, Compact. Conditions: the log lies in memory as it was made; what comes in lies in older memory.
-/
import Derived.Test.YtimplhdliaggfaaRlgK
namespace Go.Proofs.Ytimplhdliaggfaa.Rg
open Go.RowKit Go.Proofs.Ytimplhdliaggfaa.Fld
set_option linter.unusedVariables false

/-- a call that changes the log -/
def ChgR (W0 w : World) (g : Nat) (v : Value) (c : Int) (s' : St) (e : Ending) (w' : World) : Prop := ∃ v' xs', e = .returned (.int .i64 c) ∧ DoneR W0 w w' g v s' v' xs'
theorem Rm.set {W0 w : World} {g : Nat} {s : St} {v : Value} {xs : List EA} (h : Rm W0 w g s v xs) (j : Nat) (u : Value) (s' : St) (hlb : Rb (w.setCell ⟨g, j, none⟩ u) g s'.base s'.bt v s'.com s'.app) (he : s'.es = s.es) (ok : s'.Ok) : DoneR W0 w (w.setCell ⟨g, j, none⟩ u) g v s' v xs :=
  ⟨Rm.stored h.blk hlb ((Dk.Fr.refl _ _).setCell _ (.inl (by simp)) _) h.row h.dat (by rw [he]; exact h.es) h.lo ok h.old, (Dk.Fr.refl _ _).setCell _ (.inl (by simp)) _, fun i hi => .inl hi⟩
set_option maxRecDepth 100000 in
theorem rcommit_any (W0 : World) (g : Nat) (s : St) (v : Value) (xs : List EA) (i : Int) (w : World) (h : Rm W0 w g s v xs) : Calls Try.prog 24 #[.pointer (some ⟨g, 0, none⟩), .int .i64 i] w (ChgR W0 w g v (comC s i) (stCom s i)) := by
  obtain ⟨A, cap, rfl, hLo, _⟩ := h.slice
  have HIM := Lib.hid h
  have HLO := Lib.hid hLo
  have HOK := Lib.hid (stCom_ok h.ok i)
  obtain ⟨c0, c1, c2, c3, c4⟩ := h.blk.cells
  clear h hLo
  by_cases h1 : s.com ≤ i
  · by_cases h2 : i ≤ s.last
    · have HC := Lib.hid (show comC s i = 0 by unfold comC; rw [if_pos ⟨h1, h2⟩])
      have HS := Lib.hid (show stCom s i = { s with com := i } by unfold stCom; rw [if_pos ⟨h1, h2⟩])
      rw [HC.out]
      rw [HS.out] at HOK ⊢
      have k1 : ¬ i < s.com := by omega
      have k2 : ¬ s.last < i := by omega
      go_enter Try.func24, Try.ntmps24
      go_wp2_with fail
      refine HLO.out.last_dr.mono ?_
      rintro e w1 ⟨rfl, hw⟩
      have HS1 := Lib.hid (show Still w w1 by obtain ⟨k, rfl⟩ := hw; exact still_drewN _ _)
      clear hw
      have HI1 := Lib.hid (HIM.out.still HS1.out)
      have d3 := HI1.out.blk.cells.2.2.2.1
      have f3 := Blk.free HI1.out.blk 3
      go_wp2
      go_ret
      exact ⟨_, xs, rfl, DoneR.to HIM.out (below_still HS1.out (Nat.le_refl _)) (HI1.out.set 3 _ { s with com := i } (Blk.set HI1.out.blk 3 (.int .i64 i) (by show 3 < 5; omega)) rfl HOK.out)⟩
    · have HC := Lib.hid (show comC s i = 7 by unfold comC; rw [if_neg (fun h => h2 h.2)])
      have HS := Lib.hid (show stCom s i = s by unfold stCom; rw [if_neg (fun h => h2 h.2)])
      rw [HC.out, HS.out]
      have k1 : ¬ i < s.com := by omega
      have k2 : s.last < i := by omega
      go_enter Try.func24, Try.ntmps24
      go_wp2_with fail
      refine HLO.out.last_dr.mono ?_
      rintro e w1 ⟨rfl, k, rfl⟩
      go_wp2
      go_ret
      exact ⟨_, xs, rfl, DoneR.same HIM.out (below_still (still_drewN _ _) (Nat.le_refl _))⟩
  · have HC := Lib.hid (show comC s i = 7 by unfold comC; rw [if_neg (fun h => h1 h.1)])
    have HS := Lib.hid (show stCom s i = s by unfold stCom; rw [if_neg (fun h => h1 h.1)])
    rw [HC.out, HS.out]
    have k1 : i < s.com := by omega
    go_enter Try.func24, Try.ntmps24
    go_wp2
    go_ret
    exact ⟨_, xs, rfl, DoneR.same HIM.out (Below.refl _ _)⟩
set_option maxRecDepth 100000 in
theorem rapply_any (W0 : World) (g : Nat) (s : St) (v : Value) (xs : List EA) (i : Int) (w : World) (h : Rm W0 w g s v xs) : Calls Try.prog 26 #[.pointer (some ⟨g, 0, none⟩), .int .i64 i] w (ChgR W0 w g v (appC s i) (stApp s i)) := by
  have HIM := Lib.hid h
  have HOK := Lib.hid (stApp_ok h.ok i)
  obtain ⟨c0, c1, c2, c3, c4⟩ := h.blk.cells
  have f4 := Blk.free h.blk 4
  clear h
  by_cases h1 : s.app ≤ i
  · by_cases h2 : i ≤ s.com
    · have HC := Lib.hid (show appC s i = 0 by unfold appC; rw [if_pos ⟨h1, h2⟩])
      have HS := Lib.hid (show stApp s i = { s with app := i } by unfold stApp; rw [if_pos ⟨h1, h2⟩])
      rw [HC.out]
      rw [HS.out] at HOK ⊢
      have k1 : ¬ i < s.app := by omega
      have k2 : ¬ s.com < i := by omega
      go_enter Try.func26, Try.ntmps26
      go_wp2
      go_ret
      exact ⟨_, xs, rfl, HIM.out.set 4 _ { s with app := i } (Blk.set HIM.out.blk 4 (.int .i64 i) (by show 4 < 5; omega)) rfl HOK.out⟩
    · have HC := Lib.hid (show appC s i = 7 by unfold appC; rw [if_neg (fun h => h2 h.2)])
      have HS := Lib.hid (show stApp s i = s by unfold stApp; rw [if_neg (fun h => h2 h.2)])
      rw [HC.out, HS.out]
      have k1 : ¬ i < s.app := by omega
      have k2 : s.com < i := by omega
      go_enter Try.func26, Try.ntmps26
      go_wp2
      go_ret
      exact ⟨_, xs, rfl, DoneR.same HIM.out (Below.refl _ _)⟩
  · have HC := Lib.hid (show appC s i = 7 by unfold appC; rw [if_neg (fun h => h1 h.1)])
    have HS := Lib.hid (show stApp s i = s by unfold stApp; rw [if_neg (fun h => h1 h.1)])
    rw [HC.out, HS.out]
    have k1 : i < s.app := by omega
    go_enter Try.func26, Try.ntmps26
    go_wp2
    go_ret
    exact ⟨_, xs, rfl, DoneR.same HIM.out (Below.refl _ _)⟩
set_option maxRecDepth 100000 in
set_option maxHeartbeats 1600000 in
theorem rreset_any (W0 : World) (g : Nat) (s : St) (v : Value) (xs : List EA) (i t : Int) (w : World) (h : Rm W0 w g s v xs) : Calls Try.prog 30 #[.pointer (some ⟨g, 0, none⟩), .int .i64 i, .int .i64 t] w (ChgR W0 w g v (rstC s i t) (stRst s i t)) := by
  have HIM := Lib.hid h
  have HOK := Lib.hid (stRst_ok h.ok i t)
  obtain ⟨c0, c1, c2, c3, c4⟩ := h.blk.cells
  have f0 := Blk.free h.blk 0
  have f1 := Blk.free h.blk 1
  have f2 := Blk.free h.blk 2
  have f3 := Blk.free h.blk 3
  have f4 := Blk.free h.blk 4
  clear h
  by_cases hbad : okN i = true ∧ okN t = true
  rotate_left
  · have HC := Lib.hid (show rstC s i t = 1 by unfold rstC; rw [if_neg hbad])
    have HS := Lib.hid (show stRst s i t = s by unfold stRst; rw [if_neg (fun h => hbad ⟨h.1, h.2.1⟩)])
    have hh : ¬ (0 ≤ i ∧ i ≤ 1099511627776) ∨ ¬ (0 ≤ t ∧ t ≤ 1099511627776) := by
      rw [okN_iff, okN_iff] at hbad
      omega
    rw [HC.out, HS.out]
    clear hbad
    by_cases k1 : i < 0
    · clear hh
      go_enter Try.func30, Try.ntmps30
      go_wp2
      go_ret
      exact ⟨_, xs, rfl, DoneR.same HIM.out (Below.refl _ _)⟩
    by_cases k2 : 1099511627776 < i
    · clear hh
      go_enter Try.func30, Try.ntmps30
      go_wp2
      go_ret
      exact ⟨_, xs, rfl, DoneR.same HIM.out (Below.refl _ _)⟩
    by_cases k3 : t < 0
    · clear hh
      go_enter Try.func30, Try.ntmps30
      go_wp2
      go_ret
      exact ⟨_, xs, rfl, DoneR.same HIM.out (Below.refl _ _)⟩
    have k4 : 1099511627776 < t := by omega
    clear hh
    go_enter Try.func30, Try.ntmps30
    go_wp2
    go_ret
    exact ⟨_, xs, rfl, DoneR.same HIM.out (Below.refl _ _)⟩
  have HBAD := Lib.hid hbad
  have hh := hbad
  rw [okN_iff, okN_iff] at hh
  have k1 : ¬ i < 0 := by omega
  have k2 : ¬ 1099511627776 < i := by omega
  have k3 : ¬ t < 0 := by omega
  have k4 : ¬ 1099511627776 < t := by omega
  clear hh hbad
  by_cases h1 : s.com ≤ i
  · have HC := Lib.hid (show rstC s i t = 0 by unfold rstC; rw [if_pos HBAD.out, if_pos h1])
    have HS := Lib.hid (show stRst s i t = st0 i t by unfold stRst; rw [if_pos ⟨HBAD.out.1, HBAD.out.2, h1⟩])
    rw [HC.out]
    rw [HS.out] at HOK ⊢
    have k5 : ¬ i < s.com := by omega
    go_enter Try.func30, Try.ntmps30
    go_wp2
    go_ret
    have b0 := Blk.set HIM.out.blk 0 (.int .i64 i) (by show 0 < 5; omega)
    have b1 := Blk.set b0 1 (.int .i64 t) (by show 1 < 5; omega)
    have b2 := Blk.set b1 2 (.slice none 0 0) (by show 2 < 5; omega)
    have b3 := Blk.set b2 3 (.int .i64 i) (by show 3 < 5; omega)
    have b4 := Blk.set b3 4 (.int .i64 i) (by show 4 < 5; omega)
    have hfr : Dk.Fr [g] w (((((w.setCell ⟨g, 0, none⟩ (.int .i64 i)).setCell ⟨g, 1, none⟩ (.int .i64 t)).setCell ⟨g, 2, none⟩ (.slice none 0 0)).setCell ⟨g, 3, none⟩ (.int .i64 i)).setCell ⟨g, 4, none⟩ (.int .i64 i)) :=
      (((((Dk.Fr.refl _ _).setCell _ (.inl (by simp)) _).setCell _ (.inl (by simp)) _).setCell _ (.inl (by simp)) _).setCell _ (.inl (by simp)) _).setCell _ (.inl (by simp)) _
    refine ⟨.slice none 0 0, [], rfl, ?_, ?_, ?_⟩
    · exact Rm.stored (s' := st0 i t) HIM.out.blk b4 hfr (row_nil _ _ _ _) (fun x hx => by simp at hx) rfl HIM.out.lo HOK.out HIM.out.old
    · exact hfr.mono (fun i hi => by simp at hi; simp [hi])
    · intro i hi
      cases hi
  · have HC := Lib.hid (show rstC s i t = 7 by unfold rstC; rw [if_pos HBAD.out, if_neg h1])
    have HS := Lib.hid (show stRst s i t = s by unfold stRst; rw [if_neg (fun h => h1 h.2.2)])
    rw [HC.out, HS.out]
    have k5 : i < s.com := by omega
    go_enter Try.func30, Try.ntmps30
    go_wp2
    go_ret
    exact ⟨_, xs, rfl, DoneR.same HIM.out (Below.refl _ _)⟩
set_option maxRecDepth 100000 in
set_option maxHeartbeats 3200000 in
theorem radd_any (W0 : World) (g : Nat) (s : St) (v : Value) (xs : List EA) (LA : Option Addr) (m c : Nat) (ls : List EA) (w : World) (h : Rm W0 w g s v xs) (hr : RdE W0 LA m ls) (hA : LA = none → c = 0) (hm : m ≤ 1000000) (hx : xs.length ≤ 1000000) :
    Calls Try.prog 21 #[.pointer (some ⟨g, 0, none⟩), .slice LA m c] w (ChgR W0 w g v (addC s (ens ls)) (stAdd s (ens ls))) := by
  obtain ⟨A, cap, rfl, hLo, hxc, hcm, hnil, hform⟩ := h.slice
  have HV := Lib.hid (rright_any LA m c ls w (hr.below h.old))
  have HIM := Lib.hid h
  have HLO := Lib.hid hLo
  have HR := Lib.hid hr
  have HA := Lib.hid hA
  have HLEN := Lib.hid h.n
  have HOK := Lib.hid (stAdd_ok h.ok (ens ls))
  clear h hr hA hLo hform
  cases hv : okL (ens ls) with
  | false =>
    have HC := Lib.hid (show addC s (ens ls) = 1 by unfold addC; rw [if_neg (by rw [hv]; decide)])
    have HS := Lib.hid (show stAdd s (ens ls) = s by unfold stAdd; rw [if_neg (by rw [hv]; simp)])
    rw [hv] at HV
    clear hv
    rw [HC.out, HS.out]
    go_enter Try.func21, Try.ntmps21
    go_wp2_with fail
    refine HV.out.mono ?_
    rintro e w1 ⟨rfl, hb1⟩
    have HB1 := Lib.hid hb1
    clear hb1
    go_wp2
    go_ret
    exact ⟨_, xs, rfl, DoneR.same HIM.out HB1.out⟩
  | true =>
    have HVT := Lib.hid hv
    rw [hv] at HV
    clear hv
    have HFW := Lib.hid (fun W (hW : Below W0.heap.size W0 W) => rfollow_any LA m c ls s.last s.lt W (HR.out.below hW) HVT.out (by omega))
    cases hf : fol (ens ls) s.last s.lt with
    | false =>
      have HC := Lib.hid (show addC s (ens ls) = 7 by unfold addC; rw [if_pos HVT.out, if_neg (by rw [hf]; decide)])
      have HS := Lib.hid (show stAdd s (ens ls) = s by unfold stAdd; rw [if_neg (by rw [hf]; simp)])
      rw [hf] at HFW
      clear hf
      rw [HC.out, HS.out]
      go_enter Try.func21, Try.ntmps21
      go_wp2_with fail
      refine HV.out.mono ?_
      rintro e w1 ⟨rfl, hb1⟩
      have HB1 := Lib.hid hb1
      clear hb1
      go_wp2_with fail
      refine (HLO.out.below HB1.out).last_dr.mono ?_
      rintro e w2 ⟨rfl, hw2⟩
      have HS2 := Lib.hid (show Still w1 w2 by obtain ⟨k, rfl⟩ := hw2; exact still_drewN _ _)
      clear hw2
      go_wp2_with fail
      refine ((HLO.out.below HB1.out).still HS2.out).lastTerm_dr.mono ?_
      rintro e w3 ⟨rfl, hw3⟩
      have HS3 := Lib.hid (HS2.out.trans (show Still w2 w3 by obtain ⟨k, rfl⟩ := hw3; exact still_drewN _ _))
      clear hw3
      have HB3 := Lib.hid (HB1.out.trans (below_still HS3.out HB1.out.size))
      go_wp2_with fail
      refine (HFW.out _ (HIM.out.below HB3.out).old).mono ?_
      rintro e w4 ⟨rfl, rfl⟩
      go_wp2
      go_ret
      exact ⟨_, xs, rfl, DoneR.same HIM.out HB3.out⟩
    | true =>
      have HC := Lib.hid (show addC s (ens ls) = 0 by unfold addC; rw [if_pos HVT.out, if_pos hf])
      have HS := Lib.hid (show stAdd s (ens ls) = { s with es := s.es ++ ens ls } by unfold stAdd; rw [if_pos ⟨HVT.out, hf⟩])
      rw [hf] at HFW
      clear hf
      rw [HC.out]
      rw [HS.out] at HOK ⊢
      go_enter Try.func21, Try.ntmps21
      go_wp2_with fail
      refine HV.out.mono ?_
      rintro e w1 ⟨rfl, hb1⟩
      have HB1 := Lib.hid hb1
      clear hb1
      go_wp2_with fail
      refine (HLO.out.below HB1.out).last_dr.mono ?_
      rintro e w2 ⟨rfl, hw2⟩
      have HS2 := Lib.hid (show Still w1 w2 by obtain ⟨k, rfl⟩ := hw2; exact still_drewN _ _)
      clear hw2
      go_wp2_with fail
      refine ((HLO.out.below HB1.out).still HS2.out).lastTerm_dr.mono ?_
      rintro e w3 ⟨rfl, hw3⟩
      have HS3 := Lib.hid (HS2.out.trans (show Still w2 w3 by obtain ⟨k, rfl⟩ := hw3; exact still_drewN _ _))
      clear hw3
      have HB3 := Lib.hid (HB1.out.trans (below_still HS3.out HB1.out.size))
      go_wp2_with fail
      refine (HFW.out _ (HIM.out.below HB3.out).old).mono ?_
      rintro e w4 ⟨rfl, rfl⟩
      have HI4 := Lib.hid (HIM.out.below HB3.out)
      have c2 := (HI4.out.blk).cells.2.2.1
      go_wp2_with (at_builtin; refine wpList_append_rowE rfl _ _ rfl W0.heap.size (.slice A xs.length cap) xs.length (rowE xs) rfl HI4.out.row LA m c ls rfl (HR.out.below HI4.out.old) HA.out (by omega) HI4.out.old.size ?_; intro v7 w7 hr7 hg7 ha7; obtain ⟨VA, vc, hvv, _⟩ := row_slice hr7; subst hvv; have HR7 := Lib.hid hr7; have HG7 := Lib.hid hg7; have HA7 := Lib.hid ha7; have hl7 := rb_grown HI4.out.blk HI4.out.row hg7; have e2 := hl7.cells.2.2.1; have f2 := Blk.free hl7 2; clear hr7 hg7 ha7 hl7)
      go_ret
      refine ⟨.slice VA (xs.length + m) vc, xs ++ ls, rfl, ?_, ?_, ?_⟩
      · exact appendedR (s' := { s with es := s.es ++ ens ls }) HI4.out.blk HI4.out.row (HI4.out.dat.append HR.out.dat) HG7.out HR7.out HR.out.len (by rw [HI4.out.es]) HI4.out.lo HOK.out HI4.out.old
      · exact ((Dk.Fr.below HB3.out).grown HG7.out (fun i hi => .inl (mem_foot hi))).setCell _ (.inl (by simp)) _
      · intro i hi
        rcases HA7.out with h | h
        · exact .inl (h.symm.trans hi)
        · rw [h] at hi
          cases hi
          exact .inr HB3.out.size
end Go.Proofs.Ytimplhdliaggfaa.Rg
