/-
  Layer 9, the document's own: Has, rises, RightGroup, SameInts, SameGroup. Conditions: the lists can be read.
-/
import Derived.Test.YtnhcbampojpgfaaGreatQuA
namespace Go.Proofs.YtnhcbampojpgfaaGreat.Qu
open Go.RowKit Go.Proofs.YtnhcbampojpgfaaGreat.Fld
set_option linter.unusedVariables false

def anyI (l : List Int) (p : Int → Bool) : Bool := l.any p
theorem any_take (l : List Int) (p : Int → Bool) (k : Nat) (h : k < l.length) : anyI (l.take (k + 1)) p = (anyI (l.take k) p || p (l.getD k 0)) := by
  unfold anyI
  rw [take_succ l k h, List.any_append]
  simp
theorem any_at (l : List Int) (p : Int → Bool) (k : Nat) (h : k < l.length) (hx : p (l.getD k 0) = true) : anyI l p = true := by
  unfold anyI
  rw [List.any_eq_true]
  exact ⟨l[k], List.getElem_mem h, by rw [List.getD_eq_getElem?_getD, List.getElem?_eq_getElem h] at hx; exact hx⟩
set_option maxRecDepth 100000 in
set_option maxHeartbeats 800000 in
theorem has_any (A : Option Addr) (n cap : Nat) (l : List Int) (x : Int) (w : World) (hr : RdI w A n l) : Calls Tryz.prog 197 #[.slice A n cap, .int .i64 x] w fun e w' => e = .returned (.bool (hasI l x)) ∧ w = w' := by
  obtain ⟨hl, hm, hc⟩ := hr
  unfold maxLen at hm
  have HL := Lib.hid hl
  have HC := Lib.hid hc
  obtain ⟨R, hR⟩ : ∃ R, hasI l x = R := ⟨_, rfl⟩
  have HR := Lib.hid hR
  rw [hR]
  clear hl hc hR
  go_enter Tryz.func197, Tryz.ntmps197
  go_wp2
  go_loop [5] (fun i => ∃ k : Nat, k ≤ n ∧ i = .int .i64 k ∧ hasI (l.take k) x = false) (fun i => n - (intOf i).toNat)
  case atStart => exact ⟨0, Nat.zero_le _, rfl, rfl⟩
  case round =>
    obtain ⟨k, hk, rfl, hall⟩ := hrel
    have HA := Lib.hid hall
    clear hall
    by_cases hlt : k < n
    · obtain ⟨b, off, rfl, hcell⟩ := HC.out (by omega)
      have hc := hcell k hlt
      clear hcell
      have HT := Lib.hid (has_take l x k (by rw [HL.out]; exact hlt))
      have HX := Lib.hid (has_at l x k (by rw [HL.out]; exact hlt))
      generalize l.getD k 0 = y at *
      by_cases hxy : y = x
      · have hb : (y == x) = true := by simpa using hxy
        have HX2 := Lib.hid (show R = true by rw [← HR.out]; exact HX.out (by simpa using hxy.symm))
        clear HX HT
        go_wp2
        go_ret
        exact ⟨by rw [HX2.out]; rfl, rfl⟩
      · have hb : (y == x) = false := by simpa using hxy
        have HT2 := Lib.hid (show hasI (l.take (k + 1)) x = false by rw [HT.out, HA.out, show (x == y) = false by simp; exact fun h => hxy h.symm]; rfl)
        clear HX HT
        go_wp2
        go_roundw
        case rel => exact ⟨k + 1, by omega, by go_num, HT2.out⟩
        case measure => simp [intOf]; omega
    · obtain rfl : k = n := by omega
      have HF := Lib.hid (show R = false by rw [← HR.out]; have := HA.out; rwa [← HL.out, List.take_length] at this)
      go_wp2
      go_ret
      exact ⟨by rw [HF.out]; rfl, rfl⟩
theorem has_quiet (A : Option Addr) (n cap : Nat) (l : List Int) (x : Int) (w : World) (k : Nat) (hr : RdI w A n l) : Calls Tryz.prog 197 #[.slice A n cap, .int .i64 x] (w.drewN k) fun e w'' => e = .returned (.bool (hasI l x)) ∧ ∃ m, w'' = w.drewN m :=
  (has_any A n cap l x (w.drewN k) (RdI.below hr (below_dr w k))).mono fun _ _ ⟨he, hw⟩ => ⟨he, k, hw.symm⟩
def RiR (w : World) (n : Nat) (l : List Int) (i : Value) (wr : World) : Prop := ∃ k d : Nat, k ≤ n ∧ i = .int .i64 (k : Int) ∧ wr = w.drewN d ∧ upN 0 (l.take k) = true
set_option maxRecDepth 100000 in
set_option maxHeartbeats 3200000 in
theorem rises_any (A : Option Addr) (n cap : Nat) (l : List Int) (w : World) (hr : RdI w A n l) : Calls Tryz.prog 196 #[.slice A n cap] w fun e w' => e = .returned (.bool (upN 0 l)) ∧ Below w.heap.size w w' := by
  have hm := hr.2.1
  unfold maxLen at hm
  have HRD := Lib.hid hr
  have HL := Lib.hid hr.1
  clear hr
  obtain ⟨R, hR⟩ : ∃ R, upN 0 l = R := ⟨_, rfl⟩
  have HR := Lib.hid hR
  rw [hR]
  clear hR
  go_enter Tryz.func196, Tryz.ntmps196
  go_wp2_with fail
  go_loopw [3] (fun i wr => RiR w n l i wr) (fun i _ => n - (intOf i).toNat)
  case atStart => exact ⟨0, 0, by omega, rfl, rfl, rfl⟩
  case round =>
    obtain ⟨k, d, hk, rfl, rfl, hup⟩ := hrel
    have HUP := Lib.hid hup
    clear hup
    by_cases hlt : k < n
    · obtain ⟨b, off, rfl, hc⟩ := HRD.out.2.2 (by omega)
      have g1 : (w.drewN d).cell? ⟨b, off + k, none⟩ = some (.int .i64 (l.getD k 0)) := ((below_dr w d).cell (lt_of_cell (hc k hlt))).trans (hc k hlt)
      have g2 : (w.drewN d).cell? ⟨b, off + (k - 1), none⟩ = some (.int .i64 (l.getD (k - 1) 0)) := ((below_dr w d).cell (lt_of_cell (hc (k - 1) (by omega)))).trans (hc (k - 1) (by omega))
      have HT := Lib.hid (take_succ l k (by rw [HL.out]; exact hlt))
      have HS := Lib.hid (show upN 0 (l.take (k + 1)) = (decide ((l.take k).getLastD 0 < l.getD k 0) && decide (l.getD k 0 ≤ 15)) by rw [HT.out, upN_snoc, HUP.out]; rfl)
      have HLA := Lib.hid (show 0 < k → (l.take k).getLastD 0 = l.getD (k - 1) 0 from fun h => last_at l k h (by rw [HL.out]; omega))
      have HP0 := Lib.hid (show 0 ≤ (l.take k).getLastD 0 from (last_pos _ 0 (by omega) HUP.out).1)
      have HZ := Lib.hid (show k = 0 → (l.take k).getLastD 0 = 0 from fun h => by rw [h]; rfl)
      clear hc
      generalize hw1 : w.drewN d = w1 at *
      have HW1 := Lib.hid hw1
      clear hw1
      have HCUT := Lib.hid (show upN 0 (l.take (k + 1)) = false → R = false from fun h => by rw [← HR.out]; exact upN_cut l 0 (k + 1) h)
      generalize l.getD k 0 = x at *
      generalize l.getD (k - 1) 0 = y at *
      generalize (l.take k).getLastD 0 = p at *
      have j1 : (k : Int) < (n : Int) := by omega
      have j0 : (0 : Int) ≤ (k : Int) := by omega
      have hp0 := HP0.out
      by_cases h1 : x < 1
      · have q1 : decide (x < 1) = true := by simpa using h1
        have HF := Lib.hid (HCUT.out (by rw [HS.out]; simp; omega))
        clear hp0
        go_wp2_with fail
        go_quiet (fail)
        clear g1 g2
        have HW2 := Lib.hid (show w1.drewN nq = w.drewN (d + nq) by rw [← HW1.out, drew_add])
        go_wp2
        go_ret
        exact ⟨by rw [HF.out]; rfl, by rw [HW2.out]; exact below_dr w _⟩
      have q1 : decide (x < 1) = false := by simp; omega
      by_cases h2 : 15 < x
      · have q2 : decide (15 < x) = true := by simpa using h2
        have HF := Lib.hid (HCUT.out (by rw [HS.out]; simp; omega))
        clear hp0
        go_wp2_with fail
        go_quiet (fail)
        clear g1 g2
        have HW2 := Lib.hid (show w1.drewN nq = w.drewN (d + nq) by rw [← HW1.out, drew_add])
        go_wp2
        go_ret
        exact ⟨by rw [HF.out]; rfl, by rw [HW2.out]; exact below_dr w _⟩
      have q2 : decide (15 < x) = false := by simp; omega
      by_cases h3 : k = 0
      · have HOK := Lib.hid (show upN 0 (l.take (k + 1)) = true by rw [HS.out, HZ.out h3]; simp; omega)
        have HKZ := Lib.hid h3
        subst h3
        rw [Nat.add_zero] at g1
        clear hp0 g2 j0
        go_wp2_with fail
        go_quiet (fail)
        clear g1
        have HW2 := Lib.hid (show w1.drewN nq = w.drewN (d + nq) by rw [← HW1.out, drew_add])
        go_wp2
        go_roundw
        case rel => exact ⟨0 + 1, d + nq, by omega, by go_num, HW2.out, HOK.out⟩
        case measure => simp [intOf]; omega
      have hpy := HLA.out (by omega)
      have q3 : decide (0 < k) = true := by simp; omega
      have hwk : IntKind.i64.wrap ((k : Int) - 1) = ((k - 1 : Nat) : Int) := (IntWalk.i64_in _ (by omega)).trans (by omega)
      have j4 : ((k - 1 : Nat) : Int) < (n : Int) := by omega
      have j5 : (0 : Int) ≤ ((k - 1 : Nat) : Int) := by omega
      by_cases h4 : x ≤ y
      · have q4 : decide (x ≤ y) = true := by simpa using h4
        have HF := Lib.hid (HCUT.out (by rw [HS.out, hpy]; simp; omega))
        clear hp0 hpy
        go_wp2_with fail
        go_quiet (fail)
        clear g1 g2
        have HW2 := Lib.hid (show w1.drewN nq = w.drewN (d + nq) by rw [← HW1.out, drew_add])
        go_wp2
        go_ret
        exact ⟨by rw [HF.out]; rfl, by rw [HW2.out]; exact below_dr w _⟩
      · have q4 : decide (x ≤ y) = false := by simp; omega
        have HOK := Lib.hid (show upN 0 (l.take (k + 1)) = true by rw [HS.out, hpy]; simp; omega)
        clear hp0 hpy
        go_wp2_with fail
        go_quiet (fail)
        clear g1 g2
        have HW2 := Lib.hid (show w1.drewN nq = w.drewN (d + nq) by rw [← HW1.out, drew_add])
        go_wp2
        go_roundw
        case rel => exact ⟨k + 1, d + nq, by omega, by go_num, HW2.out, HOK.out⟩
        case measure => simp [intOf]; omega
    · obtain rfl : k = n := by omega
      have HF := Lib.hid (show R = true by rw [← HR.out]; have := HUP.out; rwa [← HL.out, List.take_length] at this)
      go_wp2
      go_ret
      exact ⟨by rw [HF.out]; rfl, below_dr w _⟩
def RgR (w : World) (n : Nat) (vs ls : List Int) (i : Value) (wr : World) : Prop := ∃ k d : Nat, k ≤ n ∧ i = .int .i64 (k : Int) ∧ wr = w.drewN d ∧ anyI (vs.take k) (fun x => hasI ls x) = false
set_option maxRecDepth 100000 in
set_option maxHeartbeats 3200000 in
theorem rightGroup_any (VA : Option Addr) (vn vc : Nat) (vs : List Int) (LA : Option Addr) (ln lc : Nat) (ls : List Int) (w : World) (hv : RdI w VA vn vs) (hl : RdI w LA ln ls) :
    Calls Tryz.prog 123 #[grpV VA vn vc LA ln lc] w fun e w' => e = .returned (.bool (grpOk vs ls)) ∧ Below w.heap.size w w' := by
  have HB := Lib.hid (alloc_below w (.cells #[.slice VA vn vc, .slice LA ln lc] 46))
  have K0 := Lib.hid (Blk.new w #[.slice VA vn vc, .slice LA ln lc] 46)
  have HV := Lib.hid hv
  have HL := Lib.hid hl
  have HVN := Lib.hid hv.1
  have hmv := hv.2.1
  unfold maxLen at hmv
  have H1 := Lib.hid (rises_any VA vn vc vs _ (RdI.below hv HB.out))
  obtain ⟨R, hR⟩ : ∃ R, grpOk vs ls = R := ⟨_, rfl⟩
  have HR := Lib.hid (hR.symm.trans (show grpOk vs ls = (!(decide (vs.length = 0)) && upN 0 vs && upN 0 ls && !(anyI vs fun x => hasI ls x)) from rfl))
  rw [hv.1] at HR
  rw [hR]
  clear hv hl hR
  unfold grpV
  generalize upN 0 vs = b1 at *
  go_enter Tryz.func123, Tryz.ntmps123
  go_wp2_with fail
  refine H1.out.mono ?_
  rintro e w1 ⟨rfl, hb1⟩
  have HB1 := Lib.hid (HB.out.trans (hb1.mono HB.out.size))
  have K1 := Lib.hid (K0.out.below hb1)
  clear hb1 H1 HB K0
  have H2 := Lib.hid (rises_any LA ln lc ls w1 (RdI.below HL.out HB1.out))
  have c1 := K1.out.cell 1 _ rfl
  generalize upN 0 ls = b2 at *
  go_wp2_with fail
  refine H2.out.mono ?_
  rintro e w2 ⟨rfl, hb2⟩
  have HB2 := Lib.hid (HB1.out.trans (hb2.mono HB1.out.size))
  have K2 := Lib.hid (K1.out.below hb2)
  clear hb2 H2 HB1 K1 c1
  have c0 := K2.out.cell 0 _ rfl
  have c1 := K2.out.cell 1 _ rfl
  cases b1 with
  | false =>
    have HF := Lib.hid (show R = false by rw [HR.out]; simp)
    go_wp2
    go_ret
    exact ⟨by rw [HF.out]; rfl, HB2.out⟩
  | true =>
    cases b2 with
    | false =>
      have HF := Lib.hid (show R = false by rw [HR.out]; simp)
      go_wp2
      go_ret
      exact ⟨by rw [HF.out]; rfl, HB2.out⟩
    | true =>
      by_cases h0 : vn = 0
      · have HF := Lib.hid (show R = false by rw [HR.out]; simp [h0])
        have q0 : ((vn : Int) == 0) = true := by simp [h0]
        go_wp2
        go_ret
        exact ⟨by rw [HF.out]; rfl, HB2.out⟩
      have q0 : ((vn : Int) == 0) = false := by simp [h0]
      have HR2 := Lib.hid (show R = !(anyI vs fun x => hasI ls x) by rw [HR.out]; simp [h0])
      clear HR
      go_wp2_with fail
      go_loopw [5] (fun i wr => RgR w2 vn vs ls i wr) (fun i _ => vn - (intOf i).toNat)
      case atStart => exact ⟨0, 0, by omega, rfl, rfl, rfl⟩
      case round =>
        obtain ⟨k, d, hk, rfl, rfl, hany⟩ := hrel
        have HA := Lib.hid hany
        clear hany
        have d0 : (w2.drewN d).cell? ⟨w.heap.size, 0, none⟩ = some (.slice VA vn vc) := ((below_dr w2 d).cell (lt_of_cell c0)).trans c0
        have d1 : (w2.drewN d).cell? ⟨w.heap.size, 1, none⟩ = some (.slice LA ln lc) := ((below_dr w2 d).cell (lt_of_cell c1)).trans c1
        by_cases hlt : k < vn
        · obtain ⟨b, off, rfl, hc⟩ := (RdI.below HV.out HB2.out).2.2 (by omega)
          have g1 : (w2.drewN d).cell? ⟨b, off + k, none⟩ = some (.int .i64 (vs.getD k 0)) := ((below_dr w2 d).cell (lt_of_cell (hc k hlt))).trans (hc k hlt)
          have HRL := Lib.hid (RdI.below (RdI.below HL.out HB2.out) (below_dr w2 d))
          have HT := Lib.hid (any_take vs (fun x => hasI ls x) k (by rw [HVN.out]; exact hlt))
          have HX := Lib.hid (any_at vs (fun x => hasI ls x) k (by rw [HVN.out]; exact hlt))
          clear hc
          generalize vs.getD k 0 = y at *
          generalize hw1 : w2.drewN d = w3 at *
          have HW1 := Lib.hid hw1
          clear hw1
          have HH := Lib.hid (fun m => has_quiet LA ln lc ls y w3 m HRL.out)
          have j1 : (k : Int) < (vn : Int) := by omega
          have j0 : (0 : Int) ≤ (k : Int) := by omega
          cases hb : hasI ls y with
          | true =>
            have HF := Lib.hid (show R = false by rw [HR2.out, HX.out hb]; rfl)
            rw [hb] at HH
            go_wp2_with fail
            go_quiet ((go_at_call 197; exact HH.out _))
            clear g1 d0 d1
            have HW2 := Lib.hid (show w3.drewN nq = w2.drewN (d + nq) by rw [← HW1.out, drew_add])
            go_wp2
            go_ret
            exact ⟨by rw [HF.out]; rfl, by rw [HW2.out]; exact HB2.out.trans ((below_dr w2 _).mono HB2.out.size)⟩
          | false =>
            have HT2 := Lib.hid (show anyI (vs.take (k + 1)) (fun x => hasI ls x) = false by rw [HT.out, HA.out, hb]; rfl)
            rw [hb] at HH
            go_wp2_with fail
            go_quiet ((go_at_call 197; exact HH.out _))
            clear g1 d0 d1
            have HW2 := Lib.hid (show w3.drewN nq = w2.drewN (d + nq) by rw [← HW1.out, drew_add])
            go_wp2
            go_roundw
            case rel => exact ⟨k + 1, d + nq, by omega, by go_num, HW2.out, HT2.out⟩
            case measure => simp [intOf]; omega
        · obtain rfl : k = vn := by omega
          have HF := Lib.hid (show R = true by rw [HR2.out]; have := HA.out; rw [← HVN.out, List.take_length] at this; rw [this]; rfl)
          go_wp2
          go_ret
          exact ⟨by rw [HF.out]; rfl, HB2.out.trans ((below_dr w2 _).mono HB2.out.size)⟩
def eqI (a b : List Int) : Bool := decide (a = b)
theorem eqI_len {a b : List Int} (h : a.length ≠ b.length) : eqI a b = false := by
  unfold eqI
  simp
  rintro rfl
  exact h rfl
theorem eqI_at {a b : List Int} (k : Nat) (h : a.getD k 0 ≠ b.getD k 0) : eqI a b = false := by
  unfold eqI
  simp
  rintro rfl
  exact h rfl
theorem eqI_all {a b : List Int} (hl : a.length = b.length) (h : ∀ k, k < a.length → a.getD k 0 = b.getD k 0) : eqI a b = true := by
  unfold eqI
  simp
  apply List.ext_getElem hl
  intro i h1 h2
  have := h i h1
  rwa [List.getD_eq_getElem?_getD, List.getD_eq_getElem?_getD, List.getElem?_eq_getElem h1, List.getElem?_eq_getElem h2] at this
def SiR (w : World) (n : Nat) (la lb : List Int) (i : Value) (wr : World) : Prop := ∃ k d : Nat, k ≤ n ∧ i = .int .i64 (k : Int) ∧ wr = w.drewN d ∧ ∀ j, j < k → la.getD j 0 = lb.getD j 0
set_option maxRecDepth 100000 in
set_option maxHeartbeats 1600000 in
theorem sameInts_any (A : Option Addr) (n c : Nat) (la : List Int) (B : Option Addr) (m d : Nat) (lb : List Int) (w : World) (ha : RdI w A n la) (hb : RdI w B m lb) :
    Calls Tryz.prog 73 #[.slice A n c, .slice B m d] w fun e w' => e = .returned (.bool (eqI la lb)) ∧ Below w.heap.size w w' := by
  have HA := Lib.hid ha
  have HB := Lib.hid hb
  have HLA := Lib.hid ha.1
  have HLB := Lib.hid hb.1
  have hm1 := ha.2.1
  have hm2 := hb.2.1
  unfold maxLen at hm1 hm2
  clear ha hb
  obtain ⟨R, hR⟩ : ∃ R, eqI la lb = R := ⟨_, rfl⟩
  have HR := Lib.hid hR
  rw [hR]
  clear hR
  by_cases hnm : n = m
  · subst hnm
    have q0 : ((n : Int) != (n : Int)) = false := by simp
    go_enter Tryz.func73, Tryz.ntmps73
    go_wp2_with fail
    go_loopw [5] (fun i wr => SiR w n la lb i wr) (fun i _ => n - (intOf i).toNat)
    case atStart => exact ⟨0, 0, by omega, rfl, rfl, fun j h => by omega⟩
    case round =>
      obtain ⟨k, q, hk, rfl, rfl, hall⟩ := hrel
      have HALL := Lib.hid hall
      clear hall
      by_cases hlt : k < n
      · obtain ⟨b1, o1, rfl, hc1⟩ := HA.out.2.2 (by omega)
        obtain ⟨b2, o2, rfl, hc2⟩ := HB.out.2.2 (by omega)
        have g1 : (w.drewN q).cell? ⟨b1, o1 + k, none⟩ = some (.int .i64 (la.getD k 0)) := ((below_dr w q).cell (lt_of_cell (hc1 k hlt))).trans (hc1 k hlt)
        have g2 : (w.drewN q).cell? ⟨b2, o2 + k, none⟩ = some (.int .i64 (lb.getD k 0)) := ((below_dr w q).cell (lt_of_cell (hc2 k hlt))).trans (hc2 k hlt)
        clear hc1 hc2
        generalize hw1 : w.drewN q = w1 at *
        have HW1 := Lib.hid hw1
        clear hw1
        have j1 : (k : Int) < (n : Int) := by omega
        have j0 : (0 : Int) ≤ (k : Int) := by omega
        have HNE := Lib.hid (fun h => eqI_at (a := la) (b := lb) k h)
        have HEX := Lib.hid (show la.getD k 0 = lb.getD k 0 → ∀ j, j < k + 1 → la.getD j 0 = lb.getD j 0 from fun h j hj => by
          rcases Nat.lt_or_eq_of_le (Nat.le_of_lt_succ hj) with h1 | h1
          · exact HALL.out j h1
          · subst h1; exact h)
        generalize la.getD k 0 = x at *
        generalize lb.getD k 0 = y at *
        by_cases hxy : x = y
        · have q1 : (x != y) = false := by simpa using hxy
          go_wp2_with fail
          go_quiet (fail)
          clear g1 g2
          have HW2 := Lib.hid (show w1.drewN nq = w.drewN (q + nq) by rw [← HW1.out, drew_add])
          have HEX2 := Lib.hid (HEX.out hxy)
          go_wp2
          go_roundw
          case rel => exact ⟨k + 1, q + nq, by omega, by go_num, HW2.out, HEX2.out⟩
          case measure => simp [intOf]; omega
        · have q1 : (x != y) = true := by simpa using hxy
          have HF := Lib.hid (show R = false by rw [← HR.out]; exact HNE.out hxy)
          go_wp2_with fail
          go_quiet (fail)
          clear g1 g2
          have HW2 := Lib.hid (show w1.drewN nq = w.drewN (q + nq) by rw [← HW1.out, drew_add])
          go_wp2
          go_ret
          exact ⟨by rw [HF.out]; rfl, by rw [HW2.out]; exact below_dr w _⟩
      · obtain rfl : k = n := by omega
        have HT := Lib.hid (show R = true by rw [← HR.out]; exact eqI_all (by rw [HLA.out, HLB.out]) (fun j hj => HALL.out j (by rw [HLA.out] at hj; exact hj)))
        go_wp2
        go_ret
        exact ⟨by rw [HT.out]; rfl, below_dr w _⟩
  · have HF := Lib.hid (show R = false by rw [← HR.out]; exact eqI_len (by rw [HLA.out, HLB.out]; exact hnm))
    have q0 : ((n : Int) != (m : Int)) = true := by simp; omega
    go_enter Tryz.func73, Tryz.ntmps73
    go_wp2
    go_ret
    exact ⟨by rw [HF.out]; rfl, Below.refl _ _⟩
set_option maxRecDepth 100000 in
set_option maxHeartbeats 1600000 in
theorem sameGroup_any (VA : Option Addr) (vn vc : Nat) (vs : List Int) (LA : Option Addr) (ln lc : Nat) (ls : List Int) (VB : Option Addr) (vm vd : Nat) (us : List Int) (LB : Option Addr) (lm ld : Nat) (ks : List Int) (w : World) (h1 : RdI w VA vn vs) (h2 : RdI w LA ln ls) (h3 : RdI w VB vm us) (h4 : RdI w LB lm ks) :
    Calls Tryz.prog 29 #[grpV VA vn vc LA ln lc, grpV VB vm vd LB lm ld] w fun e w' => e = .returned (.bool (eqI vs us && eqI ls ks)) ∧ Below w.heap.size w w' := by
  have hb1 := alloc_below w (.cells #[.slice VA vn vc, .slice LA ln lc] 46)
  have hb2 : Below w.heap.size w ((w.alloc (.cells #[.slice VA vn vc, .slice LA ln lc] 46)).alloc (.cells #[.slice VB vm vd, .slice LB lm ld] 46)) := hb1.alloc hb1.size _
  have HB := Lib.hid hb2
  have K0 := Lib.hid ((Blk.new w #[.slice VA vn vc, .slice LA ln lc] 46).past (.cells #[.slice VB vm vd, .slice LB lm ld] 46))
  have K1 := Lib.hid (show Blk ((w.alloc (.cells #[.slice VA vn vc, .slice LA ln lc] 46)).alloc (.cells #[.slice VB vm vd, .slice LB lm ld] 46)) (w.heap.size + 1) #[.slice VB vm vd, .slice LB lm ld] 46 by
    have := Blk.new (w.alloc (.cells #[.slice VA vn vc, .slice LA ln lc] 46)) #[.slice VB vm vd, .slice LB lm ld] 46
    simpa using this)
  have H1 := Lib.hid (sameInts_any VA vn vc vs VB vm vd us _ (RdI.below h1 hb2) (RdI.below h3 hb2))
  have H2 := Lib.hid (fun W (hW : Below w.heap.size w W) => sameInts_any LA ln lc ls LB lm ld ks W (RdI.below h2 hW) (RdI.below h4 hW))
  clear h1 h2 h3 h4 hb1 hb2
  unfold grpV
  generalize eqI vs us = b1 at *
  generalize eqI ls ks = b2 at *
  go_enter Tryz.func29, Tryz.ntmps29
  go_wp2_with fail
  refine H1.out.mono ?_
  rintro e w1 ⟨rfl, hb1⟩
  have HB1 := Lib.hid (HB.out.trans (hb1.mono HB.out.size))
  have c0 := (K0.out.below hb1).cell 1 _ rfl
  have c1 := (K1.out.below hb1).cell 1 _ rfl
  clear hb1 H1 K0 K1
  have H3 := Lib.hid (H2.out w1 HB1.out)
  go_wp2_with fail
  refine H3.out.mono ?_
  rintro e w2 ⟨rfl, hb2⟩
  have HB2 := Lib.hid (HB1.out.trans (hb2.mono HB1.out.size))
  clear hb2 H3 H2 c0 c1
  cases b1 <;> cases b2
  all_goals
    go_wp2
    go_ret
    exact ⟨rfl, HB2.out⟩
end Go.Proofs.YtnhcbampojpgfaaGreat.Qu
