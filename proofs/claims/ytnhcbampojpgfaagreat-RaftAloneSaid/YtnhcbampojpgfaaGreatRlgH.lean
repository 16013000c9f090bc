/-
  Layer 8: Commit, Apply, Compact, Reset, Get, Newer in the program. Conditions: the log lies in memory as it was made.
-/
import Derived.Test.YtnhcbampojpgfaaGreatRlgF
namespace Go.Proofs.YtnhcbampojpgfaaGreat.Rg
open Go.RowKit Go.Proofs.YtnhcbampojpgfaaGreat.Fld
set_option linter.unusedVariables false

theorem wrap_in (z : Int) (h0 : -9223372036854775808 ≤ z) (h1 : z ≤ 9223372036854775807) : IntKind.i64.wrap z = z := by
  simp only [IntKind.wrap, IntKind.bits, IntKind.signed]
  simp
  omega
/-- a call that changes the log's places alone -/
def SetIs (lo : Nat) (w : World) (g : Nat) (v : Value) (xs : List EA) (c : Int) (s' : St) (e : Ending) (w' : World) : Prop := e = .returned (.int .i64 c) ∧ Done lo w w' g v s' v xs
theorem Im.set {lo : Nat} {w : World} {g : Nat} {s : St} {v : Value} {xs : List EA} (h : Im lo w g s v xs) (j : Nat) (u : Value) (s' : St) (hlb : Lb (w.setCell ⟨g, j, none⟩ u) g s'.base s'.bt v s'.com s'.app) (he : s'.es = s.es) (ok : s'.Ok) : Done lo w (w.setCell ⟨g, j, none⟩ u) g v s' v xs :=
  ⟨Im.stored h.blk hlb ((Dk.Fr.refl _ _).setCell _ (.inl (by simp)) _) h.row h.dat (by rw [he]; exact h.es) h.lo ok, (Dk.Fr.refl _ _).setCell _ (.inl (by simp)) _, fun i hi => .inl hi⟩
set_option maxRecDepth 100000 in
theorem commit_any (lo g : Nat) (s : St) (v : Value) (xs : List EA) (i : Int) (w : World) (h : Im lo w g s v xs) : Calls Tryz.prog 168 #[.pointer (some ⟨g, 0, none⟩), .int .i64 i] w (SetIs lo w g v xs (comC s i) (stCom s i)) := by
  obtain ⟨A, cap, rfl, hLo, _⟩ := h.slice
  have HIM := Lib.hid h
  have HLO := Lib.hid hLo
  have HOK := Lib.hid (stCom_ok h.ok i)
  obtain ⟨c0, c1, c2, c3, c4⟩ := h.blk.cells
  clear h hLo
  by_cases h1 : s.com ≤ i
  · by_cases h2 : i ≤ s.last
    · have HC := Lib.hid (show comC s i = 0 by unfold comC; rw [if_pos ⟨h1, h2⟩])
      have HS := Lib.hid (show stCom s i = { s with com := i } by unfold stCom; rw [if_pos ⟨h1, h2⟩])
      rw [HC.out]
      rw [HS.out] at HOK ⊢
      have k1 : ¬ i < s.com := by omega
      have k2 : ¬ s.last < i := by omega
      go_enter Tryz.func168, Tryz.ntmps168
      go_wp2_with fail
      refine HLO.out.last_dr.mono ?_
      rintro e w1 ⟨rfl, hw⟩
      have HS1 := Lib.hid (show Still w w1 by obtain ⟨k, rfl⟩ := hw; exact still_drewN _ _)
      clear hw
      have HI1 := Lib.hid (HIM.out.still HS1.out)
      have d3 := HI1.out.blk.cells.2.2.2.1
      have f3 := Blk.free HI1.out.blk 3
      go_wp2
      go_ret
      exact ⟨rfl, Done.to HIM.out (below_still HS1.out (Nat.le_refl _)) (HI1.out.set 3 _ { s with com := i } (Blk.set HI1.out.blk 3 (.int .i64 i) (by show 3 < 5; omega)) rfl HOK.out)⟩
    · have HC := Lib.hid (show comC s i = 7 by unfold comC; rw [if_neg (fun h => h2 h.2)])
      have HS := Lib.hid (show stCom s i = s by unfold stCom; rw [if_neg (fun h => h2 h.2)])
      rw [HC.out, HS.out]
      have k1 : ¬ i < s.com := by omega
      have k2 : s.last < i := by omega
      go_enter Tryz.func168, Tryz.ntmps168
      go_wp2_with fail
      refine HLO.out.last_dr.mono ?_
      rintro e w1 ⟨rfl, k, rfl⟩
      go_wp2
      go_ret
      exact ⟨rfl, Done.same HIM.out (below_still (still_drewN _ _) (Nat.le_refl _))⟩
  · have HC := Lib.hid (show comC s i = 7 by unfold comC; rw [if_neg (fun h => h1 h.1)])
    have HS := Lib.hid (show stCom s i = s by unfold stCom; rw [if_neg (fun h => h1 h.1)])
    rw [HC.out, HS.out]
    have k1 : i < s.com := by omega
    go_enter Tryz.func168, Tryz.ntmps168
    go_wp2
    go_ret
    exact ⟨rfl, Done.same HIM.out (Below.refl _ _)⟩
set_option maxRecDepth 100000 in
theorem apply_any (lo g : Nat) (s : St) (v : Value) (xs : List EA) (i : Int) (w : World) (h : Im lo w g s v xs) : Calls Tryz.prog 80 #[.pointer (some ⟨g, 0, none⟩), .int .i64 i] w (SetIs lo w g v xs (appC s i) (stApp s i)) := by
  have HIM := Lib.hid h
  have HOK := Lib.hid (stApp_ok h.ok i)
  obtain ⟨c0, c1, c2, c3, c4⟩ := h.blk.cells
  have f4 := Blk.free h.blk 4
  clear h
  by_cases h1 : s.app ≤ i
  · by_cases h2 : i ≤ s.com
    · have HC := Lib.hid (show appC s i = 0 by unfold appC; rw [if_pos ⟨h1, h2⟩])
      have HS := Lib.hid (show stApp s i = { s with app := i } by unfold stApp; rw [if_pos ⟨h1, h2⟩])
      rw [HC.out]
      rw [HS.out] at HOK ⊢
      have k1 : ¬ i < s.app := by omega
      have k2 : ¬ s.com < i := by omega
      go_enter Tryz.func80, Tryz.ntmps80
      go_wp2
      go_ret
      exact ⟨rfl, HIM.out.set 4 _ { s with app := i } (Blk.set HIM.out.blk 4 (.int .i64 i) (by show 4 < 5; omega)) rfl HOK.out⟩
    · have HC := Lib.hid (show appC s i = 7 by unfold appC; rw [if_neg (fun h => h2 h.2)])
      have HS := Lib.hid (show stApp s i = s by unfold stApp; rw [if_neg (fun h => h2 h.2)])
      rw [HC.out, HS.out]
      have k1 : ¬ i < s.app := by omega
      have k2 : s.com < i := by omega
      go_enter Tryz.func80, Tryz.ntmps80
      go_wp2
      go_ret
      exact ⟨rfl, Done.same HIM.out (Below.refl _ _)⟩
  · have HC := Lib.hid (show appC s i = 7 by unfold appC; rw [if_neg (fun h => h1 h.1)])
    have HS := Lib.hid (show stApp s i = s by unfold stApp; rw [if_neg (fun h => h1 h.1)])
    rw [HC.out, HS.out]
    have k1 : i < s.app := by omega
    go_enter Tryz.func80, Tryz.ntmps80
    go_wp2
    go_ret
    exact ⟨rfl, Done.same HIM.out (Below.refl _ _)⟩
/-- the first ones are deleted -/
theorem del_front (lo : Nat) (A : Option Addr) (n cap k : Nat) (xs : List EA) (w : World) (hrow : w.ownsRow lo 68 4 (.slice A n cap) n (rowE xs)) (hk : k ≤ n) :
    Calls Tryz.prog 162 #[.slice A n cap, .int .i64 0, .int .i64 (k : Int)] w fun e w' => e = .returned (.slice A (n - k) cap) ∧ w'.ownsRow lo 68 4 (.slice A (n - k) cap) (n - k) (rowE (xs.drop k)) ∧ Dk.Fr (Value.slice A n cap).ownBlock.toList w w' := by
  obtain ⟨A', cap', he, hf, hn, hc, hnil⟩ := row_slice hrow
  cases he
  by_cases hk0 : k = 0
  · subst hk0
    refine (del_same A n cap 0 w (Nat.zero_le _) hn hc hf (fun h => (hnil h).1)).mono ?_
    rintro e w' ⟨rfl, rfl⟩
    exact ⟨rfl, hrow, Dk.Fr.refl _ _⟩
  · cases A with
    | none => have := (hnil rfl).2; omega
    | some a =>
      obtain ⟨b, off, sp⟩ := a
      obtain ⟨h1, h2⟩ := hf _ rfl
      simp only at h1 h2
      subst h1 h2
      refine (del_any b n cap 0 k (n - k) lo xs w hrow (by omega) (by omega)).mono ?_
      rintro e w' ⟨rfl, h3, h4⟩
      rw [Nat.zero_add, List.take_zero, List.nil_append] at h3
      exact ⟨by rw [Nat.zero_add], h3, h4⟩
/-- a call that changes the log -/
def ChgIs (lo : Nat) (w : World) (g : Nat) (v : Value) (c : Int) (s' : St) (e : Ending) (w' : World) : Prop := ∃ v' xs', e = .returned (.int .i64 c) ∧ Done lo w w' g v s' v' xs'
set_option maxRecDepth 100000 in
set_option maxHeartbeats 3200000 in
theorem compact_any (lo g : Nat) (s : St) (v : Value) (xs : List EA) (i : Int) (w : World) (h : Im lo w g s v xs) : Calls Tryz.prog 81 #[.pointer (some ⟨g, 0, none⟩), .int .i64 i] w (ChgIs lo w g v (cptC s i) (stCpt s i)) := by
  obtain ⟨A, cap, rfl, hLo, hxc, hcm, hnil, hform⟩ := h.slice
  have HIM := Lib.hid h
  have HLO := Lib.hid hLo
  have HOK := Lib.hid (stCpt_ok h.ok i)
  have hac := h.ok.ac
  have hcl := h.ok.cl
  have hbl := h.ok.bl
  have hb0 := h.ok.b0
  have hN := h.n
  have HN := Lib.hid hN
  obtain ⟨c0, c1, c2, c3, c4⟩ := h.blk.cells
  clear h hLo hform hN
  by_cases h1 : s.base ≤ i
  · by_cases h2 : i ≤ s.app
    · obtain ⟨k, hk⟩ : ∃ k : Nat, i = s.base + k := ⟨(i - s.base).toNat, by omega⟩
      have hK : (i - s.base).toNat = k := by omega
      have hkn : k ≤ xs.length := by unfold St.last at hcl; rw [HN.out] at hcl; omega
      have HC := Lib.hid (show cptC s i = 0 by unfold cptC; rw [if_pos ⟨h1, h2⟩])
      have HS := Lib.hid (show stCpt s i = { s with base := i, bt := entT s k, es := s.es.drop k } by unfold stCpt; rw [if_pos ⟨h1, h2⟩, hK])
      rw [HC.out]
      rw [HS.out] at HOK ⊢
      have HT := Lib.hid (show termV s i = entT s k by unfold termV; rw [if_pos (by rw [termB_iff]; omega), hK])
      have k1 : ¬ i < s.base := by omega
      have k2 : ¬ s.app < i := by omega
      have HTD := Lib.hid (HLO.out.term_dr i)
      rw [HT.out] at HTD
      have e1 : i - s.base = (k : Int) := by omega
      have HE1 := Lib.hid e1
      have HI2 := Lib.hid (show IntKind.i64.wrap (i - s.base) = (k : Int) by rw [e1]; exact wrap_in _ (by omega) (by unfold St.last at hbl; rw [HN.out] at hbl; omega))
      clear hk hK e1
      generalize entT s k = T at *
      generalize termB s i = TB at *
      have HDF := Lib.hid (show ∀ W, Still w W → Calls Tryz.prog 162 #[.slice A xs.length cap, .int .i64 0, .int .i64 (IntKind.i64.wrap (i - s.base))] W fun e w' => e = .returned (.slice A (xs.length - k) cap) ∧ w'.ownsRow lo 68 4 (.slice A (xs.length - k) cap) (xs.length - k) (rowE (xs.drop k)) ∧ Dk.Fr (Value.slice A xs.length cap).ownBlock.toList W w' from fun W hW => by
        rw [HI2.out]
        exact del_front lo A xs.length cap k xs W (row_of HIM.out.row (fun i _ => by rw [hW.1])) hkn)
      have HDF2 := Lib.hid (show ∀ W, Still w W → Calls Tryz.prog 162 #[.slice A xs.length cap, .int .i64 0, .int .i64 (i - s.base)] W fun e w' => e = .returned (.slice A (xs.length - k) cap) ∧ w'.ownsRow lo 68 4 (.slice A (xs.length - k) cap) (xs.length - k) (rowE (xs.drop k)) ∧ Dk.Fr (Value.slice A xs.length cap).ownBlock.toList W w' from fun W hW => by
        rw [HE1.out]
        exact del_front lo A xs.length cap k xs W (row_of HIM.out.row (fun i _ => by rw [hW.1])) hkn)
      have HAF := Lib.hid (show ∀ W w5, Still w W → Dk.Fr (Value.slice A xs.length cap).ownBlock.toList W w5 → Lb w5 g s.base s.bt (.slice A xs.length cap) s.com s.app ∧ DatO lo w5 (xs.drop k) from fun W w5 hW hf => by
        have h8 : Not8 W (Value.slice A xs.length cap).ownBlock.toList := fun i hi => (HIM.out.still hW).not8 i (by simp [hi])
        refine ⟨Blk.of (HIM.out.still hW).blk (hf.block g (Blk.lt (HIM.out.still hW).blk) (fun hm => ?_)), (((HIM.out.still hW).dat.drop k).not8 hf h8)⟩
        simp only [Option.mem_toList] at hm
        exact row_ne HIM.out.row HIM.out.blk (by decide) hm)
      go_enter Tryz.func81, Tryz.ntmps81
      go_wp2_with fail
      refine HTD.out.mono ?_
      rintro e w1 ⟨rfl, hw⟩
      have HS1 := Lib.hid (show Still w w1 by obtain ⟨k, rfl⟩ := hw; exact still_drewN _ _)
      clear hw
      obtain ⟨d0, d1, d2, d3, d4⟩ := (HIM.out.still HS1.out).blk.cells
      go_wp2_with fail
      go_region_with (
        (go_at_call 162; (first | refine (HDF.out _ (by exact HS1.out.drew)).mono ?_ | refine (HDF2.out _ (by exact HS1.out.drew)).mono ?_); rintro e w5 ⟨rfl, hr5, hf5⟩; have HR5 := Lib.hid hr5; have HF5 := Lib.hid (fr_drew hf5); have hlb := (HAF.out w1 w5 HS1.out (fr_drew hf5)).1; have HLB := Lib.hid hlb; obtain ⟨t0, t1, t2, t3, t4⟩ := hlb.cells; have f2 := Blk.free hlb 2; have f0 := Blk.free hlb 0; have f1 := Blk.free hlb 1; clear hr5 hf5 hlb))
      all_goals
        go_wp2
        go_ret
        have b1 := Blk.set HLB.out 2 (.slice A (xs.length - k) cap) (by show 2 < 5; omega)
        have b2 := Blk.set b1 0 (.int .i64 i) (by show 0 < 5; omega)
        have b3 := Blk.set b2 1 (.int .i64 T) (by show 1 < 5; omega)
        refine ⟨.slice A (xs.length - k) cap, xs.drop k, rfl, ?_, ?_, ?_⟩
        · exact Im.stored (s' := { s with base := i, bt := T, es := s.es.drop k }) HLB.out b3 ((((Dk.Fr.refl _ _).setCell _ (.inl (by simp)) _).setCell _ (.inl (by simp)) _).setCell _ (.inl (by simp)) _) (by rw [List.length_drop]; exact HR5.out) (HAF.out w1 w5 HS1.out HF5.out).2 (by rw [ens_drop, HIM.out.es]) HIM.out.lo HOK.out
        · exact ((((fr_still HS1.out).same (HF5.out.mono (fun i hi => by simp [hi]))).setCell _ (.inl (by simp)) _).setCell _ (.inl (by simp)) _).setCell _ (.inl (by simp)) _
        · intro i hi
          exact .inl ((own_slice A xs.length (xs.length - k) cap).trans hi)
    · have HC := Lib.hid (show cptC s i = 7 by unfold cptC; rw [if_neg (fun h => h2 h.2)])
      have HS := Lib.hid (show stCpt s i = s by unfold stCpt; rw [if_neg (fun h => h2 h.2)])
      rw [HC.out, HS.out]
      have k1 : ¬ i < s.base := by omega
      have k2 : s.app < i := by omega
      go_enter Tryz.func81, Tryz.ntmps81
      go_wp2
      go_ret
      exact ⟨_, xs, rfl, Done.same HIM.out (Below.refl _ _)⟩
  · have HC := Lib.hid (show cptC s i = 7 by unfold cptC; rw [if_neg (fun h => h1 h.1)])
    have HS := Lib.hid (show stCpt s i = s by unfold stCpt; rw [if_neg (fun h => h1 h.1)])
    rw [HC.out, HS.out]
    have k1 : i < s.base := by omega
    go_enter Tryz.func81, Tryz.ntmps81
    go_wp2
    go_ret
    exact ⟨_, xs, rfl, Done.same HIM.out (Below.refl _ _)⟩
set_option maxRecDepth 100000 in
set_option maxHeartbeats 1600000 in
theorem reset_any (lo g : Nat) (s : St) (v : Value) (xs : List EA) (i t : Int) (w : World) (h : Im lo w g s v xs) : Calls Tryz.prog 271 #[.pointer (some ⟨g, 0, none⟩), .int .i64 i, .int .i64 t] w (ChgIs lo w g v (rstC s i t) (stRst s i t)) := by
  have HIM := Lib.hid h
  have HOK := Lib.hid (stRst_ok h.ok i t)
  obtain ⟨c0, c1, c2, c3, c4⟩ := h.blk.cells
  have f0 := Blk.free h.blk 0
  have f1 := Blk.free h.blk 1
  have f2 := Blk.free h.blk 2
  have f3 := Blk.free h.blk 3
  have f4 := Blk.free h.blk 4
  clear h
  cases hi : okN i with
  | false =>
    have HC := Lib.hid (show rstC s i t = 1 by unfold rstC; rw [if_neg (by rw [hi]; simp)])
    have HS := Lib.hid (show stRst s i t = s by unfold stRst; rw [if_neg (by rw [hi]; simp)])
    rw [HC.out, HS.out]
    go_enter Tryz.func271, Tryz.ntmps271
    go_wp2_with (go_at_call 96; refine (validIndex_any _ _).mono ?_; rintro e w' ⟨rfl, rfl⟩)
    go_ret
    exact ⟨_, xs, rfl, Done.same HIM.out (Below.refl _ _)⟩
  | true =>
  cases ht : okN t with
  | false =>
    have HC := Lib.hid (show rstC s i t = 1 by unfold rstC; rw [if_neg (by rw [ht]; simp)])
    have HS := Lib.hid (show stRst s i t = s by unfold stRst; rw [if_neg (by rw [ht]; simp)])
    rw [HC.out, HS.out]
    go_enter Tryz.func271, Tryz.ntmps271
    go_wp2_with (go_at_call 96; refine (validIndex_any _ _).mono ?_; rintro e w' ⟨rfl, rfl⟩)
    go_ret
    exact ⟨_, xs, rfl, Done.same HIM.out (Below.refl _ _)⟩
  | true =>
  by_cases h1 : s.com ≤ i
  · have HC := Lib.hid (show rstC s i t = 0 by unfold rstC; rw [if_pos ⟨hi, ht⟩, if_pos h1])
    have HS := Lib.hid (show stRst s i t = st0 i t by unfold stRst; rw [if_pos ⟨hi, ht, h1⟩])
    rw [HC.out]
    rw [HS.out] at HOK ⊢
    have k1 : ¬ i < s.com := by omega
    go_enter Tryz.func271, Tryz.ntmps271
    go_wp2_with (go_at_call 96; refine (validIndex_any _ _).mono ?_; rintro e w' ⟨rfl, rfl⟩)
    go_ret
    have b0 := Blk.set HIM.out.blk 0 (.int .i64 i) (by show 0 < 5; omega)
    have b1 := Blk.set b0 1 (.int .i64 t) (by show 1 < 5; omega)
    have b2 := Blk.set b1 2 (.slice none 0 0) (by show 2 < 5; omega)
    have b3 := Blk.set b2 3 (.int .i64 i) (by show 3 < 5; omega)
    have b4 := Blk.set b3 4 (.int .i64 i) (by show 4 < 5; omega)
    have hfr : Dk.Fr [g] w (((((w.setCell ⟨g, 0, none⟩ (.int .i64 i)).setCell ⟨g, 1, none⟩ (.int .i64 t)).setCell ⟨g, 2, none⟩ (.slice none 0 0)).setCell ⟨g, 3, none⟩ (.int .i64 i)).setCell ⟨g, 4, none⟩ (.int .i64 i)) :=
      (((((Dk.Fr.refl _ _).setCell _ (.inl (by simp)) _).setCell _ (.inl (by simp)) _).setCell _ (.inl (by simp)) _).setCell _ (.inl (by simp)) _).setCell _ (.inl (by simp)) _
    refine ⟨.slice none 0 0, [], rfl, ?_, ?_, ?_⟩
    · exact Im.stored (s' := st0 i t) HIM.out.blk b4 hfr (row_nil _ _ _ _) (DatO.nil _ _) rfl HIM.out.lo HOK.out
    · exact hfr.mono (fun i hi => by simp at hi; simp [hi])
    · intro i hi
      cases hi
  · have HC := Lib.hid (show rstC s i t = 7 by unfold rstC; rw [if_pos ⟨hi, ht⟩, if_neg h1])
    have HS := Lib.hid (show stRst s i t = s by unfold stRst; rw [if_neg (fun h => h1 h.2.2)])
    rw [HC.out, HS.out]
    have k1 : i < s.com := by omega
    go_enter Tryz.func271, Tryz.ntmps271
    go_wp2_with (go_at_call 96; refine (validIndex_any _ _).mono ?_; rintro e w' ⟨rfl, rfl⟩)
    go_ret
    exact ⟨_, xs, rfl, Done.same HIM.out (Below.refl _ _)⟩
def newB (s : St) (i t : Int) : Bool := decide (s.lt < t) || (t == s.lt && decide (s.last ≤ i))
end Go.Proofs.YtnhcbampojpgfaaGreat.Rg
