/-
  The plain mathematics of layer 7, first part: what writing a file whole makes of a disk, and what a load of a hard state tells of it. No condition but those that each theorem states.
-/
import Derived.Test.YtgmpdifggaggdaaGreatDoorJDiskMath
import Derived.Test.YtgmpdifggaggdaaGreatDoorRecMath
namespace Go.Proofs.YtgmpdifggaggdaaGreatDoor.Kp
open Go.Proofs.YtgmpdifggaggdaaGreatDoor.Dk Go.Proofs.YtgmpdifggaggdaaGreatDoor.Fld
set_option linter.unusedVariables false

def newE : Nm := [46, 110, 101, 119]
def hardN : Nm := [104, 97, 114, 100]
def snapN : Nm := [115, 110, 97, 112]
/-- one step behind another -/
def thn (r : Int × St) (k : St → Int × St) : Int × St := if r.1 = 0 then k r.2 else r
def wr3 (x : Nm) (b : List Int) (t : St) : Int × St := thn (stAppend (x ++ newE) b t) fun t => thn (stSync (x ++ newE) t) fun t => stRename (x ++ newE) x t
/-- b as the file x -/
def stWrite (x : Nm) (b : List Int) (t : St) : Int × St :=
  if (fget (x ++ newE) t.fs).isSome then thn (stUnlink (x ++ newE) t) (wr3 x b) else wr3 x b t

theorem fdel_le (fs : List Fil) (x : Nm) : (fdel x fs).length ≤ fs.length := by
  unfold fdel del
  exact List.length_filter_le _ _
theorem fput_le (f : Fil) (fs : List Fil) : (fput f fs).length ≤ fs.length + 1 := by
  have h1 : (fput f fs).length = (fdel f.1 fs).length + 1 := by
    have := (ins_perm (key := Prod.fst) f (fdel f.1 fs)).length_eq
    rw [List.length_cons] at this
    exact this
  have h2 := fdel_le fs f.1
  omega
theorem doing_le (ok : Bool) (t : St) (f : St → Int × St) (hf : ∀ t, (f t).2.fs.length ≤ t.fs.length + 1) : (doing ok t f).2.fs.length ≤ t.fs.length + 1 := by
  unfold doing
  split
  · split
    · have := hf (chg t).2
      rw [(chg_same t).2] at this
      exact this
    · rw [(chg_same t).2]; omega
  · simp
theorem app_le (x : Nm) (b : List Int) (t : St) : (stAppend x b t).2.fs.length ≤ t.fs.length + 1 := by
  refine doing_le _ _ _ fun t => ?_
  unfold app1
  split
  · simp
  · simp only
    split <;> exact fput_le _ _
theorem sync_le (x : Nm) (t : St) : (stSync x t).2.fs.length ≤ t.fs.length + 1 := by
  refine doing_le _ _ _ fun t => ?_
  unfold sync1
  split
  · exact fput_le _ _
  · simp
theorem unl_le (x : Nm) (t : St) : (stUnlink x t).2.fs.length ≤ t.fs.length := by
  unfold stUnlink doing
  split
  · split
    · unfold unl1
      split
      · simp only
        rw [(chg_same t).2]
        exact fdel_le _ _
      · rw [(chg_same t).2]; exact Nat.le_refl _
    · rw [(chg_same t).2]; exact Nat.le_refl _
  · exact Nat.le_refl _
theorem ren_le (x y : Nm) (t : St) : (stRename x y t).2.fs.length ≤ t.fs.length + 1 := by
  refine doing_le _ _ _ fun t => ?_
  unfold ren1
  split
  · split
    · simp
    · simp only
      refine Nat.le_trans (fdel_le _ _) (Nat.le_trans (fput_le _ _) ?_)
      have := fdel_le t.fs y
      omega
  · simp
theorem thn_ok {r : Int × St} (k : St → Int × St) (h : r.1 = 0) : thn r k = k r.2 := by unfold thn; rw [if_pos h]
theorem thn_no {r : Int × St} (k : St → Int × St) (h : ¬ r.1 = 0) : thn r k = r := by unfold thn; rw [if_neg h]
theorem wr3_le (x : Nm) (b : List Int) (t : St) : (wr3 x b t).2.fs.length ≤ t.fs.length + 3 := by
  have h1 := app_le (x ++ newE) b t
  unfold wr3
  by_cases c1 : (stAppend (x ++ newE) b t).1 = 0
  · rw [thn_ok _ c1]
    generalize (stAppend (x ++ newE) b t).2 = t1 at *
    have h2 := sync_le (x ++ newE) t1
    by_cases c2 : (stSync (x ++ newE) t1).1 = 0
    · rw [thn_ok _ c2]
      have := ren_le (x ++ newE) x (stSync (x ++ newE) t1).2
      omega
    · rw [thn_no _ c2]; omega
  · rw [thn_no _ c1]; omega
theorem write_le (x : Nm) (b : List Int) (t : St) : (stWrite x b t).2.fs.length ≤ t.fs.length + 3 := by
  unfold stWrite
  have h1 := unl_le (x ++ newE) t
  split
  · by_cases c1 : (stUnlink (x ++ newE) t).1 = 0
    · rw [thn_ok _ c1]
      have := wr3_le x b (stUnlink (x ++ newE) t).2
      omega
    · rw [thn_no _ c1]; omega
  · exact wr3_le x b t

/-! ### hard states -/
def hardC (a b : Nat) : List Int := code a ++ code b
def hardOk (a b : Int) : Bool := decide (0 ≤ a) && decide (a ≤ 1099511627776) && (decide (0 ≤ b) && decide (b ≤ 15))
/-- the numbers that a reader of bytes tells, one behind the other; and whether all went well, and nothing is left -/
def rdN (r : List Int × Bool) (most : Nat) : Nat × (List Int × Bool) :=
  if r.2 then (0, r) else match cutNum r.1 with
    | some (v, z) => if v ≤ most then (v, (z, false)) else (0, (r.1, true))
    | none => (0, (r.1, true))
def decHard (zs : List Int) : (Int × Int) × Int :=
  let p := rdN (zs, false) 1099511627776
  let q := rdN p.2 15
  if q.2.2 = false ∧ q.2.1 = [] then (((p.1 : Int), (q.1 : Int)), 0) else ((0, 0), 6)
/-- the content of the record that bytes are -/
def single (zs : List Int) : Option (List Int) := match Rc.first zs with | some c => if zs = Rc.recd c then some c else none | none => none
end Go.Proofs.YtgmpdifggaggdaaGreatDoor.Kp
