/-
  Layer 8: what is left of a list: behind, and missing with its closure and slices.IndexFunc, in the program. Conditions: the lists can be read.
-/
import Derived.Test.YtnhcbampojpgfaaGreatRlgC
namespace Go.Proofs.YtnhcbampojpgfaaGreat.Rg
open Go.RowKit Go.Proofs.YtnhcbampojpgfaaGreat.Fld
set_option linter.unusedVariables false

theorem upto_succ {P : Nat → Prop} {k : Nat} (h : ∀ i, i < k → P i) (hk : P k) : ∀ i, i < k + 1 → P i := by
  intro i hi
  rcases Nat.lt_or_ge i k with h1 | h1
  · exact h i h1
  · have : i = k := by omega
    subst this
    exact hk
/-- a part of a slice, from a place on -/
theorem RdE.tail {w : World} {b off n : Nat} {xs : List EA} (h : RdE w (some ⟨b, off, none⟩) n xs) (k : Nat) (hk : k ≤ n) (cap : Nat) (hc : n ≤ cap) : RdE w (some (if cap = k then ⟨b, off, none⟩ else ⟨b, off + k * 4, none⟩)) (n - k) (xs.drop k) := by
  refine ⟨by rw [List.length_drop, h.len], by have := h.most; omega, fun hn => ?_, h.dat.drop k⟩
  obtain ⟨b', off', hA, hcell⟩ := h.at' (by omega)
  cases hA
  rw [if_neg (by omega)]
  refine ⟨b, off + k * 4, rfl, fun j v hj => ?_⟩
  rw [rowE_drop, List.getElem?_drop] at hj
  have := hcell _ _ hj
  rw [← Nat.add_assoc] at this
  exact this
/-- a slice of entries of which the entries are those -/
def Left (w : World) (l : List En) (v : Value) : Prop := ∃ A m c ys, v = .slice A m c ∧ RdE w A m ys ∧ m ≤ c ∧ c ≤ maxLen ∧ (A = none → c = 0) ∧ ens ys = l ∧ m = l.length
set_option maxRecDepth 100000 in
set_option maxHeartbeats 3200000 in
theorem behind_any (W0 : World) (A : Option Addr) (n cap : Nat) (xs : List EA) (base : Int) (w : World) (hb0 : Below W0.heap.size W0 w) (hr : RdE W0 A n xs) (hc : n ≤ cap) (hcm : cap ≤ maxLen) (hA : A = none → cap = 0) : Calls Tryz.prog 266 #[.slice A n cap, .int .i64 base] w fun e w' => ∃ v, e = .returned v ∧ Left W0 (skp base (ens xs)) v ∧ (∃ j, j ≤ n ∧ skp base (ens xs) = (ens xs).drop j) ∧ w = w' := by
  have HR := Lib.hid hr
  have HA := Lib.hid hA
  have HB0 := Lib.hid hb0
  clear hr hA hb0
  go_enter Tryz.func266, Tryz.ntmps266
  go_wp2
  go_loopw [0] (fun l wr => ∃ (A' : Option Addr) (m c j : Nat) (ys : List EA), l = .slice A' m c ∧ RdE W0 A' m ys ∧ m ≤ c ∧ c ≤ maxLen ∧ (A' = none → c = 0) ∧ j ≤ n ∧ ys = xs.drop j ∧ skp base (ens xs) = skp base (ens ys) ∧ w = wr) (fun l _ => (match l with | .slice _ m _ => m | _ => 0))
  case atStart => exact ⟨A, n, cap, 0, xs, rfl, HR.out, hc, hcm, HA.out, Nat.zero_le _, rfl, rfl, rfl⟩
  case round =>
    obtain ⟨A', m, c, j, ys, rfl, hrd, hmc, hcm2, hA', hj, hys, hsk, rfl⟩ := hrel
    have HRD := Lib.hid hrd
    have HA2 := Lib.hid hA'
    have HSK := Lib.hid hsk
    have HYS := Lib.hid hys
    have hlen := hrd.len
    have HLEN := Lib.hid hlen
    clear hrd hA' hsk hys hlen
    have HJ := Lib.hid (show ∀ l, skp base (ens ys) = l → (∃ q, q ≤ ys.length ∧ l = (ens ys).drop q) → ∃ j, j ≤ n ∧ skp base (ens xs) = (ens xs).drop j from by
      intro l h1 ⟨q, hq, h2⟩
      refine ⟨j + q, ?_, by rw [HSK.out, h1, h2, HYS.out, ens_drop, List.drop_drop]⟩
      have := HLEN.out
      have h3 := HR.out.len
      rw [HYS.out, List.length_drop] at hq
      omega)
    unfold maxLen at hcm2
    by_cases hm : 0 < m
    · obtain ⟨b, off, rfl, q0, q1, q2, q3⟩ := (HRD.out.below HB0.out).elem 0 hm
      have hy : ys = ys.getD 0 ea0 :: ys.drop 1 := by
        cases ys with
        | nil => have := HLEN.out; simp at this; omega
        | cons y r => rfl
      have HY := Lib.hid hy
      clear hy q1 q2 q3
      have q0' : w.cell? ⟨b, off, none⟩ = some (.int .i64 (ys.getD 0 ea0).e.idx) := by simpa using q0
      clear q0
      generalize ys.getD 0 ea0 = x at *
      have j0 : decide (0 < m) = true := decide_eq_true hm
      have j1 : (0 : Int) < (m : Int) := by omega
      have j2 : (1 : Int) ≤ (m : Int) := by omega
      have j3 : (1 : Int) ≤ (c : Int) := by omega
      have j4 : (m : Int) ≤ (c : Int) := by omega
      have HT := Lib.hid (HRD.out.tail 1 hm c hmc)
      by_cases hle : x.e.idx ≤ base
      · have hsk2 : skp base (ens ys) = skp base (ens (ys.drop 1)) := by
          conv => lhs; rw [HY.out]
          simp only [ens, List.map_cons, skp]
          rw [if_pos hle]
        have HSK2 := Lib.hid (HSK.out.trans hsk2)
        have HYS2 := Lib.hid (show ys.drop 1 = xs.drop (j + 1) by rw [HYS.out, List.drop_drop])
        have hjn : j + 1 ≤ n := by
          have h1 := HLEN.out
          have h2 := HR.out.len
          rw [HYS.out, List.length_drop] at h1
          omega
        clear hsk2
        by_cases hc1 : c = 1
        · subst hc1
          have hm1 : m = 1 := by omega
          subst hm1
          have HT2 := Lib.hid (show RdE W0 (some ⟨b, off, none⟩) 0 (ys.drop 1) by have := HT.out; rwa [if_pos rfl] at this)
          go_wp2
          go_roundw
          case rel => exact ⟨_, 0, 0, j + 1, ys.drop 1, rfl, HT2.out, by omega, by unfold maxLen; omega, (fun h => by cases h), hjn, HYS2.out, HSK2.out, trivial⟩
          case measure => (simp <;> omega)
        · have HT2 := Lib.hid (show RdE W0 (some ⟨b, off + 1 * 4, none⟩) (m - 1) (ys.drop 1) by have := HT.out; rwa [if_neg hc1] at this)
          go_wp2
          go_roundw
          case rel => exact ⟨_, m - 1, c - 1, j + 1, ys.drop 1, rfl, HT2.out, by omega, by unfold maxLen; omega, (fun h => by cases h), hjn, HYS2.out, HSK2.out, trivial⟩
          case measure => (simp <;> omega)
      · have hsk2 : skp base (ens ys) = ens ys := by
          rw [HY.out]
          simp only [ens, List.map_cons, skp]
          rw [if_neg hle]
        have HSK2 := Lib.hid hsk2
        clear hsk2
        go_wp2
        go_ret
        exact ⟨_, rfl, ⟨_, _, _, ys, rfl, HRD.out, hmc, by unfold maxLen; omega, (fun h => by cases h), by rw [HSK.out, HSK2.out], by rw [HSK.out, HSK2.out, ens_len, HLEN.out]⟩, HJ.out _ HSK2.out ⟨0, Nat.zero_le _, rfl⟩, rfl⟩
    · obtain rfl : m = 0 := by omega
      obtain rfl : ys = [] := List.eq_nil_of_length_eq_zero HLEN.out
      go_wp2
      go_ret
      exact ⟨_, rfl, ⟨_, _, _, [], rfl, HRD.out, hmc, by unfold maxLen; omega, HA2.out, by rw [HSK.out]; rfl, by rw [HSK.out]; rfl⟩, HJ.out [] rfl ⟨0, Nat.zero_le _, rfl⟩, rfl⟩
/-- what IndexFunc tells, of a question that each entry answers -/
def IdxIs (n : Nat) (q : Nat → Bool) (k : Int) : Prop := (k = -1 ∧ ∀ i, i < n → q i = false) ∨ ∃ j : Nat, k = j ∧ j < n ∧ q j = true ∧ ∀ i, i < j → q i = false
set_option maxRecDepth 100000 in
set_option maxHeartbeats 3200000 in
theorem indexF_any (A : Option Addr) (n cap : Nat) (xs : List EA) (q : En → Bool) (c1 c2 : Value) (w : World) (hr : RdE w A n xs)
    (hf : ∀ (x : EA) (W : World), Below w.heap.size w W → Calls Tryz.prog 283 #[x.val, c1, c2] W fun e w' => e = .returned (.bool (q x.e)) ∧ Below W.heap.size W w') :
    Calls Tryz.prog 282 #[.slice A n cap, .func (.func 283) #[] #[c1, c2]] w fun e w' => ∃ k : Int, e = .returned (.int .i64 k) ∧ Below w.heap.size w w' ∧ IdxIs n (fun i => q (xs.getD i ea0).e) k := by
  have HR := Lib.hid hr
  have HF := Lib.hid hf
  have hm := hr.most
  unfold maxLen at hm
  clear hr hf
  go_enter Tryz.func282, Tryz.ntmps282
  go_wp2
  go_loopw [8] (fun i wr => ∃ k : Nat, k ≤ n ∧ i = .int .i64 k ∧ (∀ i, i < k → q (xs.getD i ea0).e = false) ∧ Below w.heap.size w wr) (fun i _ => n - (intOf i).toNat)
  case atStart => exact ⟨0, Nat.zero_le _, rfl, (fun i hi => by omega), Below.refl _ _⟩
  case round =>
    obtain ⟨k, hk, rfl, hall, hbel⟩ := hrel
    have HALL := Lib.hid hall
    have HBEL := Lib.hid hbel
    clear hall hbel
    by_cases hlt : k < n
    · obtain ⟨b, off, rfl, q0, q1, q2, q3⟩ := (HR.out.below HBEL.out).elem k hlt
      have HX := Lib.hid (HF.out (xs.getD k ea0) wr HBEL.out)
      unfold EA.val at HX
      have k0 : (0 : Int) ≤ (k : Int) := by omega
      have k1 : (k : Int) < (n : Int) := by omega
      cases hb : q (xs.getD k ea0).e with
      | true =>
        rw [hb] at HX
        have HQ := Lib.hid hb
        clear hb
        generalize xs.getD k ea0 = x at q0 q1 q2 q3 HX
        go_wp2_with fail
        refine HX.out.mono ?_
        rintro e w1 ⟨rfl, hb1⟩
        have HB1 := Lib.hid hb1
        clear hb1
        go_wp2
        go_ret
        exact ⟨_, rfl, HBEL.out.trans (HB1.out.mono HBEL.out.size), .inr ⟨k, rfl, hlt, HQ.out, HALL.out⟩⟩
      | false =>
        rw [hb] at HX
        have HQ := Lib.hid hb
        clear hb
        generalize xs.getD k ea0 = x at q0 q1 q2 q3 HX
        go_wp2_with fail
        refine HX.out.mono ?_
        rintro e w1 ⟨rfl, hb1⟩
        have HB1 := Lib.hid hb1
        clear hb1
        go_wp2
        go_roundw
        case rel => exact ⟨k + 1, by omega, by go_num, upto_succ HALL.out HQ.out, HBEL.out.trans (HB1.out.mono HBEL.out.size)⟩
        case measure => simp [intOf]; omega
    · obtain rfl : k = n := by omega
      go_wp2
      go_ret
      exact ⟨_, rfl, HBEL.out, .inl ⟨rfl, HALL.out⟩⟩
theorem mis_of (s : St) : ∀ (l : List En) (k : Nat), k ≤ l.length → (∀ i, i < k → hasB s (l.getD i en0).idx (l.getD i en0).term = true) → (k < l.length → hasB s (l.getD k en0).idx (l.getD k en0).term = false) → mis s l = l.drop k
  | [], k, hk, _, _ => by
    simp only [List.length_nil] at hk
    obtain rfl : k = 0 := by omega
    rfl
  | e :: r, 0, _, _, h => by
    have := h (by simp)
    simp only [List.getD_cons_zero] at this
    simp only [mis]
    rw [this]
    rfl
  | e :: r, k + 1, hk, h1, h2 => by
    have h0 := h1 0 (by omega)
    simp only [List.getD_cons_zero] at h0
    simp only [mis]
    rw [if_pos h0, List.drop_succ_cons]
    exact mis_of s r k (by simpa using hk) (fun i hi => by have := h1 (i + 1) (by omega); simpa using this) (fun hl => by have := h2 (by simpa using hl); simpa using this)
set_option maxRecDepth 100000 in
set_option maxHeartbeats 1600000 in
/-- the closure of missing -/
theorem miss1_any (g P5 P3 : Nat) (s : St) (A : Option Addr) (n cap : Nat) (ys : List EA) (x : EA) (w : World) (h : Lo w g s A n cap ys) (h3 : Blk w P3 #[.pointer (some ⟨g, 0, none⟩)] 43) (h5 : Blk w P5 #[.func (.func 82) #[] #[]] 265) :
    Calls Tryz.prog 283 #[x.val, .pointer (some ⟨P3, 0, none⟩), .pointer (some ⟨P5, 0, none⟩)] w fun e w' => e = .returned (.bool (!hasB s x.e.idx x.e.term)) ∧ Below w.heap.size w w' := by
  obtain ⟨⟨idx, term, kind, data⟩, XA, xc⟩ := x
  unfold EA.val
  simp only
  generalize data.length = D at *
  have HB := Lib.hid (alloc_below' w (.cells #[.int .i64 idx, .int .i64 term, .int .i64 kind, .slice XA D xc] 68))
  have HE := Lib.hid (Blk.new w #[.int .i64 idx, .int .i64 term, .int .i64 kind, .slice XA D xc] 68)
  have HL := Lib.hid ((h.below HB.out).has_dr idx term)
  have c3 := (h3.below HB.out).cell 0 _ rfl
  have c5 := (h5.below HB.out).cell 0 _ rfl
  have e0 := HE.out.cell 0 _ rfl
  have e1 := HE.out.cell 1 _ rfl
  clear h h3 h5
  generalize hasB s idx term = B at *
  go_enter Tryz.func283, Tryz.ntmps283
  go_wp2_with fail
  refine HL.out.mono ?_
  rintro e w1 ⟨rfl, m, rfl⟩
  go_wp2
  go_ret
  exact ⟨rfl, HB.out.trans (below_still (still_drewN _ _) HB.out.size)⟩
set_option maxRecDepth 100000 in
set_option maxHeartbeats 1600000 in
theorem missing_any (W0 : World) (g : Nat) (s : St) (A : Option Addr) (n cap : Nat) (ys : List EA) (LA : Option Addr) (m c : Nat) (xs : List EA) (w : World) (h : Lo w g s A n cap ys) (hb0 : Below W0.heap.size W0 w) (hr : RdE W0 LA m xs) (hmc : m ≤ c) (hcm : c ≤ maxLen) (hA : LA = none → c = 0) :
    Calls Tryz.prog 268 #[.pointer (some ⟨g, 0, none⟩), .slice LA m c, .func (.func 82) #[] #[]] w fun e w' => ∃ v, e = .returned v ∧ Left W0 (mis s (ens xs)) v ∧ Below w.heap.size w w' := by
  have hmf : ∀ (fn : Fn) (first cap : Array Value) (w : World), (Instr.makeFunc fn first cap).run Tryz.prog w = .ok (.func fn first cap) w := fun _ _ _ _ => rfl
  have H3 := Lib.hid (Blk.new w #[.pointer (some ⟨g, 0, none⟩)] 43)
  have hb1 := alloc_below' w (.cells #[.pointer (some ⟨g, 0, none⟩)] 43)
  have HB := Lib.hid (hb1.alloc hb1.size (.cells #[.func (.func 82) #[] #[]] 265))
  have H5 := Lib.hid (Blk.new (w.alloc (.cells #[.pointer (some ⟨g, 0, none⟩)] 43)) #[.func (.func 82) #[] #[]] 265)
  have H3' := Lib.hid (H3.out.past (.cells #[.func (.func 82) #[] #[]] 265))
  clear hb1
  have HI := Lib.hid (indexF_any LA m c xs (fun e => !hasB s e.idx e.term) (.pointer (some ⟨w.heap.size, 0, none⟩)) (.pointer (some ⟨(w.alloc (.cells #[.pointer (some ⟨g, 0, none⟩)] 43)).heap.size, 0, none⟩)) _ ((hr.below hb0).below HB.out) (fun x W hW => miss1_any g _ _ s A n cap ys x W ((h.below HB.out).below hW) (H3'.out.below hW) (H5.out.below hW)))
  have HR := Lib.hid hr
  have HA := Lib.hid hA
  unfold maxLen at hcm
  clear hr hA h hb0
  have hz : (w.alloc (.cells #[.pointer (some ⟨g, 0, none⟩)] 43)).heap.size = w.heap.size + 1 := by simp
  rw [hz] at HI
  clear hz
  go_enter Tryz.func268, Tryz.ntmps268
  go_wp2_with fail
  refine HI.out.mono ?_
  rintro e w1 ⟨k, rfl, hb1, hk⟩
  have HB1 := Lib.hid (HB.out.trans (hb1.mono HB.out.size))
  have HLN := Lib.hid HR.out.len
  have conv : ∀ i, i < m → hasB s ((ens xs).getD i en0).idx ((ens xs).getD i en0).term = hasB s (xs.getD i ea0).e.idx (xs.getD i ea0).e.term := fun i hi => by rw [ens_at xs i (by rw [HLN.out]; exact hi)]
  rcases hk with ⟨rfl, hall⟩ | ⟨j, rfl, hj, hq, hall⟩
  · have HM := Lib.hid (show mis s (ens xs) = [] by
      rw [mis_of s (ens xs) m (by rw [ens_len, HLN.out]; exact Nat.le_refl _) (fun i hi => by rw [conv i hi]; have := hall i hi; simpa using this) (fun h => by rw [ens_len, HLN.out] at h; omega)]
      exact List.drop_eq_nil_of_le (by rw [ens_len, HLN.out]; exact Nat.le_refl _))
    clear hall conv hb1
    go_wp2
    go_ret
    exact ⟨_, rfl, ⟨none, 0, 0, [], rfl, RdE.nil _ _, Nat.le_refl _, by unfold maxLen; omega, (fun _ => rfl), by rw [HM.out]; rfl, by rw [HM.out]; rfl⟩, HB1.out⟩
  · have HM := Lib.hid (show mis s (ens xs) = ens (xs.drop j) by
      rw [ens_drop]
      exact mis_of s (ens xs) j (by rw [ens_len, HLN.out]; omega) (fun i hi => by rw [conv i (by omega)]; have := hall i hi; simpa using this) (fun h => by rw [conv j hj]; simpa using hq))
    obtain ⟨b, off, rfl⟩ : ∃ b off, LA = some ⟨b, off, none⟩ := by
      obtain ⟨b, off, h, _⟩ := HR.out.at' (by omega)
      exact ⟨b, off, h⟩
    have HT := Lib.hid (HR.out.tail j (by omega) c hmc)
    clear hall hq conv hb1
    have j0 : ¬ (j : Int) < 0 := by omega
    have j1 : (0 : Int) ≤ (j : Int) := by omega
    have j2 : (j : Int) ≤ (m : Int) := by omega
    have j3 : (j : Int) ≤ (c : Int) := by omega
    have j4 : (m : Int) ≤ (c : Int) := by omega
    have j5 : ¬ c = j := by omega
    have HT2 := Lib.hid (show RdE W0 (some ⟨b, off + j * 4, none⟩) (m - j) (xs.drop j) by have := HT.out; rwa [if_neg j5] at this)
    go_wp2
    go_ret
    exact ⟨_, rfl, ⟨_, _, _, xs.drop j, rfl, HT2.out, by omega, by unfold maxLen; omega, (fun h => by cases h), HM.out.symm, by rw [HM.out, ens_len, List.length_drop, HLN.out]⟩, HB1.out⟩
end Go.Proofs.YtnhcbampojpgfaaGreat.Rg
