/-
  Several texts in one: Layer 9, in the program: slices.Contains of numbers, rising, count, Right, Need. Conditions: the lists can be read. Layer 9, the document's own: Has, rises, RightGroup, SameInts, SameGroup. Conditions: the lists can be read.
-/
import Derived.Test.YtjadfpcipicckaaGreatJQuBase
namespace Go.Proofs.YtjadfpcipicckaaGreat.Qu
open Go.RowKit Go.Proofs.YtjadfpcipicckaaGreat.Fld
set_option linter.unusedVariables false

set_option maxRecDepth 100000 in
set_option maxHeartbeats 800000 in
theorem indexI_any (A : Option Addr) (n cap : Nat) (l : List Int) (x : Int) (w : World) (hr : RdI w A n l) : Calls Tryz.prog 107 #[.slice A n cap, .int .i64 x] w fun e w' => ∃ k : Int, e = .returned (.int .i64 k) ∧ w = w' ∧ decide (0 ≤ k) = hasI l x := by
  obtain ⟨hl, hm, hc⟩ := hr
  unfold maxLen at hm
  have HL := Lib.hid hl
  have HC := Lib.hid hc
  clear hl hc
  go_enter Tryz.func107, Tryz.ntmps107
  go_wp2
  go_loop [8] (fun i => ∃ k : Nat, k ≤ n ∧ i = .int .i64 k ∧ hasI (l.take k) x = false) (fun i => n - (intOf i).toNat)
  case atStart => exact ⟨0, Nat.zero_le _, rfl, rfl⟩
  case round =>
    obtain ⟨k, hk, rfl, hall⟩ := hrel
    have HA := Lib.hid hall
    clear hall
    by_cases hlt : k < n
    · obtain ⟨b, off, rfl, hcell⟩ := HC.out (by omega)
      have hc := hcell k hlt
      clear hcell
      have HT := Lib.hid (has_take l x k (by rw [HL.out]; exact hlt))
      have HX := Lib.hid (has_at l x k (by rw [HL.out]; exact hlt))
      generalize l.getD k 0 = y at *
      cases hb : (x == y) with
      | true =>
        have HX2 := Lib.hid (HX.out hb)
        clear HX HT
        go_wp2
        go_ret
        exact ⟨_, rfl, rfl, by rw [HX2.out]; simp⟩
      | false =>
        have HT2 := Lib.hid (show hasI (l.take (k + 1)) x = false by rw [HT.out, HA.out, hb]; rfl)
        clear HX HT
        go_wp2
        go_roundw
        case rel => exact ⟨k + 1, by omega, by go_num, HT2.out⟩
        case measure => simp [intOf]; omega
    · obtain rfl : k = n := by omega
      go_wp2
      go_ret
      exact ⟨_, rfl, rfl, by have := HA.out; rw [← HL.out, List.take_length] at this; rw [this]; rfl⟩
set_option maxRecDepth 100000 in
theorem containsI_any (A : Option Addr) (n cap : Nat) (l : List Int) (x : Int) (w : World) (hr : RdI w A n l) : Calls Tryz.prog 75 #[.slice A n cap, .int .i64 x] w fun e w' => e = .returned (.bool (hasI l x)) ∧ w = w' := by
  have HI := Lib.hid (indexI_any A n cap l x w hr)
  clear hr
  go_enter Tryz.func75, Tryz.ntmps75
  go_wp2_with fail
  refine HI.out.mono ?_
  rintro e w' ⟨k, rfl, rfl, hk⟩
  have HK := Lib.hid hk
  clear hk
  go_wp2
  go_ret
  exact ⟨by rw [← HK.out]; rfl, rfl⟩
set_option maxRecDepth 100000 in
set_option maxHeartbeats 1600000 in
theorem rising_any (A : Option Addr) (n cap : Nat) (l : List Int) (w : World) (hr : RdI w A n l) : Calls Tryz.prog 77 #[.slice A n cap] w fun e w' => e = .returned (.bool (upN 0 l)) ∧ w = w' := by
  obtain ⟨hl, hm, hc⟩ := hr
  unfold maxLen at hm
  obtain ⟨B, hB⟩ : ∃ B, upN 0 l = B := ⟨_, rfl⟩
  have HB := Lib.hid hB
  have HL := Lib.hid hl
  have HC := Lib.hid hc
  rw [hB]
  clear hB hl hc
  go_enter Tryz.func77, Tryz.ntmps77
  go_wp2
  go_loop [3, 8] (fun p i => ∃ k : Nat, k ≤ n ∧ i = .int .i64 k ∧ p = .int .i64 ((l.take k).getLastD 0) ∧ upN 0 (l.take k) = true) (fun _ i => n - (intOf i).toNat)
  case atStart => exact ⟨0, Nat.zero_le _, rfl, rfl, rfl⟩
  case round =>
    obtain ⟨k, hk, rfl, rfl, hall⟩ := hrel
    have HA := Lib.hid hall
    clear hall
    by_cases hlt : k < n
    · obtain ⟨b, off, rfl, hcell⟩ := HC.out (by omega)
      have hc := hcell k hlt
      clear hcell
      have HT := Lib.hid (take_succ l k (by rw [HL.out]; exact hlt))
      have HS := Lib.hid (show upN 0 (l.take (k + 1)) = (decide ((l.take k).getLastD 0 < l.getD k 0) && decide (l.getD k 0 ≤ 15)) by rw [HT.out, upN_snoc, HA.out]; rfl)
      have HG := Lib.hid (show (l.take (k + 1)).getLastD 0 = l.getD k 0 by rw [HT.out, last_snoc])
      generalize l.getD k 0 = x at *
      generalize (l.take k).getLastD 0 = p at *
      by_cases h1 : x ≤ p
      · have HF := Lib.hid (show B = false by rw [← HB.out]; exact upN_cut l 0 (k + 1) (by rw [HS.out]; simp; omega))
        go_wp2
        go_ret
        exact ⟨by rw [HF.out]; rfl, rfl⟩
      by_cases h2 : 15 < x
      · have HF := Lib.hid (show B = false by rw [← HB.out]; exact upN_cut l 0 (k + 1) (by rw [HS.out]; simp; omega))
        go_wp2
        go_ret
        exact ⟨by rw [HF.out]; rfl, rfl⟩
      have HK := Lib.hid (show upN 0 (l.take (k + 1)) = true by rw [HS.out]; simp; omega)
      go_wp2
      go_roundw
      case rel => exact ⟨k + 1, by omega, by go_num, by rw [HG.out], HK.out⟩
      case measure => simp [intOf]; omega
    · obtain rfl : k = n := by omega
      have HT := Lib.hid (show B = true by rw [← HB.out]; have := HA.out; rwa [← HL.out, List.take_length] at this)
      go_wp2
      go_ret
      exact ⟨by rw [HT.out]; rfl, rfl⟩
def grpV (VA : Option Addr) (vn vc : Nat) (LA : Option Addr) (ln lc : Nat) : Value := .agg #[.slice VA vn vc, .slice LA ln lc]
set_option maxRecDepth 100000 in
set_option maxHeartbeats 1600000 in
theorem count_any (A : Option Addr) (n cap : Nat) (vs : List Int) (B : Option Addr) (m d : Nat) (l : List Int) (w : World) (hv : RdI w A n vs) (hl : RdI w B m l) : Calls Tryz.prog 78 #[.slice A n cap, .slice B m d] w fun e w' => e = .returned (.int .i64 ((cnt vs l : Nat) : Int)) ∧ w = w' := by
  obtain ⟨hvl, hm, hc⟩ := hv
  unfold maxLen at hm
  have HL := Lib.hid hvl
  have HC := Lib.hid hc
  have HI := Lib.hid (fun x => containsI_any B m d l x w hl)
  have HT := Lib.hid (cnt_take vs l)
  have HLE := Lib.hid (fun k => Nat.le_trans (cnt_le (vs.take k) l) (show (vs.take k).length ≤ k by rw [List.length_take]; omega))
  clear hvl hc hl
  go_enter Tryz.func78, Tryz.ntmps78
  go_wp2
  go_loopw [5, 10] (fun c i wr => ∃ k : Nat, k ≤ n ∧ i = .int .i64 k ∧ c = .int .i64 ((cnt (vs.take k) l : Nat) : Int) ∧ wr = w) (fun _ i _ => n - (intOf i).toNat)
  case atStart => exact ⟨0, Nat.zero_le _, rfl, rfl, rfl⟩
  case round =>
    obtain ⟨k, hk, rfl, rfl, rfl⟩ := hrel
    by_cases hlt : k < n
    · obtain ⟨b, off, rfl, hcell⟩ := HC.out (by omega)
      have hc := hcell k hlt
      clear hcell
      have hle := HLE.out k
      have HT1 := Lib.hid (HT.out k (by rw [HL.out]; exact hlt))
      generalize vs.getD k 0 = y at *
      have HY := Lib.hid (HI.out y)
      generalize cnt (vs.take k) l = c at *
      cases hb : hasI l y with
      | true =>
        rw [hb] at HY HT1
        have HT2 := Lib.hid (show cnt (vs.take (k + 1)) l = c + 1 by rw [HT1.out]; rfl)
        go_wp2_with fail
        refine HY.out.mono ?_
        rintro e w' ⟨rfl, rfl⟩
        go_wp2
        go_roundw
        case rel => exact ⟨k + 1, by omega, by go_num, by rw [HT2.out]; go_num, trivial⟩
        case measure => simp [intOf]; omega
      | false =>
        rw [hb] at HY HT1
        have HT2 := Lib.hid (show cnt (vs.take (k + 1)) l = c by rw [HT1.out]; rfl)
        go_wp2_with fail
        refine HY.out.mono ?_
        rintro e w' ⟨rfl, rfl⟩
        go_wp2
        go_roundw
        case rel => exact ⟨k + 1, by omega, by go_num, by rw [HT2.out], trivial⟩
        case measure => simp [intOf]; omega
    · obtain rfl : k = n := by omega
      have HF := Lib.hid (show cnt (vs.take k) l = cnt vs l by rw [← HL.out, List.take_length])
      go_wp2
      go_ret
      exact ⟨by rw [HF.out]; rfl, rfl⟩
set_option maxRecDepth 100000 in
set_option maxHeartbeats 1600000 in
theorem right_any (VA : Option Addr) (vn vc : Nat) (vs : List Int) (LA : Option Addr) (ln lc : Nat) (ls : List Int) (w : World) (hv : RdI w VA vn vs) (hl : RdI w LA ln ls) :
    Calls Tryz.prog 37 #[grpV VA vn vc LA ln lc] w fun e w' => e = .returned (.bool (grpOk vs ls)) ∧ Below w.heap.size w w' := by
  have hb := alloc_below w (.cells #[.slice VA vn vc, .slice LA ln lc] 26)
  have HB := Lib.hid hb
  have HK := Lib.hid (Blk.new w #[.slice VA vn vc, .slice LA ln lc] 26)
  have HV := Lib.hid (RdI.below hv hb)
  have HL := Lib.hid (RdI.below hl hb)
  have HVN := Lib.hid hv.1
  have hmv := hv.2.1
  unfold maxLen at hmv
  clear hv hl hb
  generalize hwa : w.alloc (.cells #[.slice VA vn vc, .slice LA ln lc] 26) = wa at *
  have H1 := Lib.hid (rising_any VA vn vc vs wa HV.out)
  have H2 := Lib.hid (rising_any LA ln lc ls wa HL.out)
  have H3 := Lib.hid (count_any VA vn vc vs LA ln lc ls wa HV.out HL.out)
  have HG := Lib.hid (show grpOk vs ls = (!(decide (vs.length = 0)) && upN 0 vs && upN 0 ls && !(decide (0 < cnt vs ls))) by rw [← any_cnt]; rfl)
  have HCL := Lib.hid (cnt_le vs ls)
  rw [HVN.out] at HG HCL
  have hcl := HCL.out
  rw [HG.out]
  unfold grpV
  generalize upN 0 vs = b1 at *
  generalize upN 0 ls = b2 at *
  generalize cnt vs ls = c at *
  subst hwa
  have c0 := HK.out.cell 0 _ rfl
  have c1 := HK.out.cell 1 _ rfl
  by_cases h0 : vn = 0
  · subst h0
    go_enter Tryz.func37, Tryz.ntmps37
    go_wp2
    go_ret
    exact ⟨by simp, HB.out⟩
  have j0 : ((vn : Int) == 0) = false := by simp [h0]
  cases b1 with
  | false =>
    go_enter Tryz.func37, Tryz.ntmps37
    go_wp2_with (go_at_call 77; refine H1.out.mono ?_; rintro e w' ⟨rfl, rfl⟩)
    go_ret
    exact ⟨by simp, HB.out⟩
  | true =>
    cases b2 with
    | false =>
      go_enter Tryz.func37, Tryz.ntmps37
      go_wp2_with fail
      refine H1.out.mono ?_
      rintro e w' ⟨rfl, rfl⟩
      go_wp2_with fail
      refine H2.out.mono ?_
      rintro e w' ⟨rfl, rfl⟩
      go_wp2
      go_ret
      exact ⟨by simp, HB.out⟩
    | true =>
      go_enter Tryz.func37, Tryz.ntmps37
      go_wp2_with fail
      refine H1.out.mono ?_
      rintro e w' ⟨rfl, rfl⟩
      go_wp2_with fail
      refine H2.out.mono ?_
      rintro e w' ⟨rfl, rfl⟩
      go_wp2_with fail
      refine H3.out.mono ?_
      rintro e w' ⟨rfl, rfl⟩
      by_cases hc0 : c = 0
      · have q0 : ((c : Int) == 0) = true := by simp [hc0]
        go_wp2
        go_ret
        exact ⟨by simp [h0, hc0], HB.out⟩
      · have q0 : ((c : Int) == 0) = false := by simp [hc0]
        go_wp2
        go_ret
        exact ⟨by simp [h0, Nat.pos_of_ne_zero hc0], HB.out⟩
set_option maxRecDepth 100000 in
set_option maxHeartbeats 1600000 in
theorem need_any (VA : Option Addr) (vn vc : Nat) (vs : List Int) (LA : Option Addr) (ln lc : Nat) (ls : List Int) (w : World) (hv : RdI w VA vn vs) (hl : RdI w LA ln ls) :
    Calls Tryz.prog 99 #[grpV VA vn vc LA ln lc] w fun e w' => e = .returned (.int .i64 (if grpOk vs ls then ((vn / 2 + 1 : Nat) : Int) else 0)) ∧ Below w.heap.size w w' := by
  have hb := alloc_below w (.cells #[.slice VA vn vc, .slice LA ln lc] 26)
  have HB := Lib.hid hb
  have HK := Lib.hid (Blk.new w #[.slice VA vn vc, .slice LA ln lc] 26)
  have HR := Lib.hid (right_any VA vn vc vs LA ln lc ls _ (RdI.below hv hb) (RdI.below hl hb))
  have hmv := hv.2.1
  unfold maxLen at hmv
  unfold grpV at HR ⊢
  clear hv hl hb
  have c0 := HK.out.cell 0 _ rfl
  have c1 := HK.out.cell 1 _ rfl
  cases hg : grpOk vs ls with
  | false =>
    rw [hg] at HR
    go_enter Tryz.func99, Tryz.ntmps99
    go_wp2_with fail
    refine HR.out.mono ?_
    rintro e w1 ⟨rfl, hb1⟩
    have HB1 := Lib.hid (HB.out.trans (hb1.mono HB.out.size))
    clear hb1
    go_wp2
    go_ret
    exact ⟨rfl, HB1.out⟩
  | true =>
    rw [hg] at HR
    have j1 : IntKind.i64.wrap ((vn : Int) / 2 + 1) = ((vn / 2 + 1 : Nat) : Int) := (IntWalk.i64_in _ (by omega)).trans (by omega)
    go_enter Tryz.func99, Tryz.ntmps99
    go_wp2_with fail
    refine HR.out.mono ?_
    rintro e w1 ⟨rfl, hb1⟩
    have HB1 := Lib.hid (HB.out.trans (hb1.mono HB.out.size))
    have K1 := Lib.hid (HK.out.below hb1)
    clear hb1 c0 c1
    have c0 := K1.out.cell 0 (.slice VA vn vc) rfl
    clear HK HR
    go_wp2
    go_ret
    exact ⟨by simp, HB1.out⟩
end Go.Proofs.YtjadfpcipicckaaGreat.Qu

namespace Go.Proofs.YtjadfpcipicckaaGreat.Qu
open Go.RowKit Go.Proofs.YtjadfpcipicckaaGreat.Fld
set_option linter.unusedVariables false

def anyI (l : List Int) (p : Int → Bool) : Bool := l.any p
theorem any_take (l : List Int) (p : Int → Bool) (k : Nat) (h : k < l.length) : anyI (l.take (k + 1)) p = (anyI (l.take k) p || p (l.getD k 0)) := by
  unfold anyI
  rw [take_succ l k h, List.any_append]
  simp
theorem any_at (l : List Int) (p : Int → Bool) (k : Nat) (h : k < l.length) (hx : p (l.getD k 0) = true) : anyI l p = true := by
  unfold anyI
  rw [List.any_eq_true]
  exact ⟨l[k], List.getElem_mem h, by rw [List.getD_eq_getElem?_getD, List.getElem?_eq_getElem h] at hx; exact hx⟩
def RiR (w : World) (n : Nat) (l : List Int) (i : Value) (wr : World) : Prop := ∃ k d : Nat, k ≤ n ∧ i = .int .i64 (k : Int) ∧ wr = w.drewN d ∧ upN 0 (l.take k) = true
def RgR (w : World) (n : Nat) (vs ls : List Int) (i : Value) (wr : World) : Prop := ∃ k d : Nat, k ≤ n ∧ i = .int .i64 (k : Int) ∧ wr = w.drewN d ∧ anyI (vs.take k) (fun x => hasI ls x) = false
def eqI (a b : List Int) : Bool := decide (a = b)
theorem eqI_len {a b : List Int} (h : a.length ≠ b.length) : eqI a b = false := by
  unfold eqI
  simp
  rintro rfl
  exact h rfl
theorem eqI_at {a b : List Int} (k : Nat) (h : a.getD k 0 ≠ b.getD k 0) : eqI a b = false := by
  unfold eqI
  simp
  rintro rfl
  exact h rfl
theorem eqI_all {a b : List Int} (hl : a.length = b.length) (h : ∀ k, k < a.length → a.getD k 0 = b.getD k 0) : eqI a b = true := by
  unfold eqI
  simp
  apply List.ext_getElem hl
  intro i h1 h2
  have := h i h1
  rwa [List.getD_eq_getElem?_getD, List.getD_eq_getElem?_getD, List.getElem?_eq_getElem h1, List.getElem?_eq_getElem h2] at this
def SiR (w : World) (n : Nat) (la lb : List Int) (i : Value) (wr : World) : Prop := ∃ k d : Nat, k ≤ n ∧ i = .int .i64 (k : Int) ∧ wr = w.drewN d ∧ ∀ j, j < k → la.getD j 0 = lb.getD j 0
end Go.Proofs.YtjadfpcipicckaaGreat.Qu
