/-
  Layer 9, the document's own: Has, rises, RightGroup, SameInts, SameGroup. Conditions: the lists can be read.
-/
import Derived.Test.YtnmmpiddmckghaaDoorQuA
namespace Go.Proofs.YtnmmpiddmckghaaDoor.Qu
open Go.RowKit Go.Proofs.YtnmmpiddmckghaaDoor.Fld
set_option linter.unusedVariables false

def anyI (l : List Int) (p : Int → Bool) : Bool := l.any p
theorem any_take (l : List Int) (p : Int → Bool) (k : Nat) (h : k < l.length) : anyI (l.take (k + 1)) p = (anyI (l.take k) p || p (l.getD k 0)) := by
  unfold anyI
  rw [take_succ l k h, List.any_append]
  simp
theorem any_at (l : List Int) (p : Int → Bool) (k : Nat) (h : k < l.length) (hx : p (l.getD k 0) = true) : anyI l p = true := by
  unfold anyI
  rw [List.any_eq_true]
  exact ⟨l[k], List.getElem_mem h, by rw [List.getD_eq_getElem?_getD, List.getElem?_eq_getElem h] at hx; exact hx⟩
set_option maxRecDepth 100000 in
set_option maxHeartbeats 800000 in
theorem has_any (A : Option Addr) (n cap : Nat) (l : List Int) (x : Int) (w : World) (hr : RdI w A n l) : Calls Tryd.prog 24 #[.slice A n cap, .int .i64 x] w fun e w' => e = .returned (.bool (hasI l x)) ∧ w = w' := by
  obtain ⟨hl, hm, hc⟩ := hr
  unfold maxLen at hm
  have HL := Lib.hid hl
  have HC := Lib.hid hc
  obtain ⟨R, hR⟩ : ∃ R, hasI l x = R := ⟨_, rfl⟩
  have HR := Lib.hid hR
  rw [hR]
  clear hl hc hR
  go_enter Tryd.func24, Tryd.ntmps24
  go_wp2
  go_loop [5] (fun i => ∃ k : Nat, k ≤ n ∧ i = .int .i64 k ∧ hasI (l.take k) x = false) (fun i => n - (intOf i).toNat)
  case atStart => exact ⟨0, Nat.zero_le _, rfl, rfl⟩
  case round =>
    obtain ⟨k, hk, rfl, hall⟩ := hrel
    have HA := Lib.hid hall
    clear hall
    by_cases hlt : k < n
    · obtain ⟨b, off, rfl, hcell⟩ := HC.out (by omega)
      have hc := hcell k hlt
      clear hcell
      have HT := Lib.hid (has_take l x k (by rw [HL.out]; exact hlt))
      have HX := Lib.hid (has_at l x k (by rw [HL.out]; exact hlt))
      generalize l.getD k 0 = y at *
      by_cases hxy : y = x
      · have hb : (y == x) = true := by simpa using hxy
        have HX2 := Lib.hid (show R = true by rw [← HR.out]; exact HX.out (by simpa using hxy.symm))
        clear HX HT
        go_wp2
        go_ret
        exact ⟨by rw [HX2.out]; rfl, rfl⟩
      · have hb : (y == x) = false := by simpa using hxy
        have HT2 := Lib.hid (show hasI (l.take (k + 1)) x = false by rw [HT.out, HA.out, show (x == y) = false by simp; exact fun h => hxy h.symm]; rfl)
        clear HX HT
        go_wp2
        go_roundw
        case rel => exact ⟨k + 1, by omega, by go_num, HT2.out⟩
        case measure => simp [intOf]; omega
    · obtain rfl : k = n := by omega
      have HF := Lib.hid (show R = false by rw [← HR.out]; have := HA.out; rwa [← HL.out, List.take_length] at this)
      go_wp2
      go_ret
      exact ⟨by rw [HF.out]; rfl, rfl⟩
theorem has_quiet (A : Option Addr) (n cap : Nat) (l : List Int) (x : Int) (w : World) (k : Nat) (hr : RdI w A n l) : Calls Tryd.prog 24 #[.slice A n cap, .int .i64 x] (w.drewN k) fun e w'' => e = .returned (.bool (hasI l x)) ∧ ∃ m, w'' = w.drewN m :=
  (has_any A n cap l x (w.drewN k) (RdI.below hr (below_dr w k))).mono fun _ _ ⟨he, hw⟩ => ⟨he, k, hw.symm⟩
def RiR (w : World) (n : Nat) (l : List Int) (i : Value) (wr : World) : Prop := ∃ k d : Nat, k ≤ n ∧ i = .int .i64 (k : Int) ∧ wr = w.drewN d ∧ upN 0 (l.take k) = true
def RgR (w : World) (n : Nat) (vs ls : List Int) (i : Value) (wr : World) : Prop := ∃ k d : Nat, k ≤ n ∧ i = .int .i64 (k : Int) ∧ wr = w.drewN d ∧ anyI (vs.take k) (fun x => hasI ls x) = false
def eqI (a b : List Int) : Bool := decide (a = b)
theorem eqI_len {a b : List Int} (h : a.length ≠ b.length) : eqI a b = false := by
  unfold eqI
  simp
  rintro rfl
  exact h rfl
theorem eqI_at {a b : List Int} (k : Nat) (h : a.getD k 0 ≠ b.getD k 0) : eqI a b = false := by
  unfold eqI
  simp
  rintro rfl
  exact h rfl
theorem eqI_all {a b : List Int} (hl : a.length = b.length) (h : ∀ k, k < a.length → a.getD k 0 = b.getD k 0) : eqI a b = true := by
  unfold eqI
  simp
  apply List.ext_getElem hl
  intro i h1 h2
  have := h i h1
  rwa [List.getD_eq_getElem?_getD, List.getD_eq_getElem?_getD, List.getElem?_eq_getElem h1, List.getElem?_eq_getElem h2] at this
def SiR (w : World) (n : Nat) (la lb : List Int) (i : Value) (wr : World) : Prop := ∃ k d : Nat, k ≤ n ∧ i = .int .i64 (k : Int) ∧ wr = w.drewN d ∧ ∀ j, j < k → la.getD j 0 = lb.getD j 0
set_option maxRecDepth 100000 in
set_option maxHeartbeats 1600000 in
theorem sameInts_any (A : Option Addr) (n c : Nat) (la : List Int) (B : Option Addr) (m d : Nat) (lb : List Int) (w : World) (ha : RdI w A n la) (hb : RdI w B m lb) :
    Calls Tryd.prog 12 #[.slice A n c, .slice B m d] w fun e w' => e = .returned (.bool (eqI la lb)) ∧ Below w.heap.size w w' := by
  have HA := Lib.hid ha
  have HB := Lib.hid hb
  have HLA := Lib.hid ha.1
  have HLB := Lib.hid hb.1
  have hm1 := ha.2.1
  have hm2 := hb.2.1
  unfold maxLen at hm1 hm2
  clear ha hb
  obtain ⟨R, hR⟩ : ∃ R, eqI la lb = R := ⟨_, rfl⟩
  have HR := Lib.hid hR
  rw [hR]
  clear hR
  by_cases hnm : n = m
  · subst hnm
    have q0 : ((n : Int) != (n : Int)) = false := by simp
    go_enter Tryd.func12, Tryd.ntmps12
    go_wp2_with fail
    go_loopw [5] (fun i wr => SiR w n la lb i wr) (fun i _ => n - (intOf i).toNat)
    case atStart => exact ⟨0, 0, by omega, rfl, rfl, fun j h => by omega⟩
    case round =>
      obtain ⟨k, q, hk, rfl, rfl, hall⟩ := hrel
      have HALL := Lib.hid hall
      clear hall
      by_cases hlt : k < n
      · obtain ⟨b1, o1, rfl, hc1⟩ := HA.out.2.2 (by omega)
        obtain ⟨b2, o2, rfl, hc2⟩ := HB.out.2.2 (by omega)
        have g1 : (w.drewN q).cell? ⟨b1, o1 + k, none⟩ = some (.int .i64 (la.getD k 0)) := ((below_dr w q).cell (lt_of_cell (hc1 k hlt))).trans (hc1 k hlt)
        have g2 : (w.drewN q).cell? ⟨b2, o2 + k, none⟩ = some (.int .i64 (lb.getD k 0)) := ((below_dr w q).cell (lt_of_cell (hc2 k hlt))).trans (hc2 k hlt)
        clear hc1 hc2
        generalize hw1 : w.drewN q = w1 at *
        have HW1 := Lib.hid hw1
        clear hw1
        have j1 : (k : Int) < (n : Int) := by omega
        have j0 : (0 : Int) ≤ (k : Int) := by omega
        have HNE := Lib.hid (fun h => eqI_at (a := la) (b := lb) k h)
        have HEX := Lib.hid (show la.getD k 0 = lb.getD k 0 → ∀ j, j < k + 1 → la.getD j 0 = lb.getD j 0 from fun h j hj => by
          rcases Nat.lt_or_eq_of_le (Nat.le_of_lt_succ hj) with h1 | h1
          · exact HALL.out j h1
          · subst h1; exact h)
        generalize la.getD k 0 = x at *
        generalize lb.getD k 0 = y at *
        by_cases hxy : x = y
        · have q1 : (x != y) = false := by simpa using hxy
          go_wp2_with fail
          go_quiet (fail)
          clear g1 g2
          have HW2 := Lib.hid (show w1.drewN nq = w.drewN (q + nq) by rw [← HW1.out, drew_add])
          have HEX2 := Lib.hid (HEX.out hxy)
          go_wp2
          go_roundw
          case rel => exact ⟨k + 1, q + nq, by omega, by go_num, HW2.out, HEX2.out⟩
          case measure => simp [intOf]; omega
        · have q1 : (x != y) = true := by simpa using hxy
          have HF := Lib.hid (show R = false by rw [← HR.out]; exact HNE.out hxy)
          go_wp2_with fail
          go_quiet (fail)
          clear g1 g2
          have HW2 := Lib.hid (show w1.drewN nq = w.drewN (q + nq) by rw [← HW1.out, drew_add])
          go_wp2
          go_ret
          exact ⟨by rw [HF.out]; rfl, by rw [HW2.out]; exact below_dr w _⟩
      · obtain rfl : k = n := by omega
        have HT := Lib.hid (show R = true by rw [← HR.out]; exact eqI_all (by rw [HLA.out, HLB.out]) (fun j hj => HALL.out j (by rw [HLA.out] at hj; exact hj)))
        go_wp2
        go_ret
        exact ⟨by rw [HT.out]; rfl, below_dr w _⟩
  · have HF := Lib.hid (show R = false by rw [← HR.out]; exact eqI_len (by rw [HLA.out, HLB.out]; exact hnm))
    have q0 : ((n : Int) != (m : Int)) = true := by simp; omega
    go_enter Tryd.func12, Tryd.ntmps12
    go_wp2
    go_ret
    exact ⟨by rw [HF.out]; rfl, Below.refl _ _⟩
end Go.Proofs.YtnmmpiddmckghaaDoor.Qu
