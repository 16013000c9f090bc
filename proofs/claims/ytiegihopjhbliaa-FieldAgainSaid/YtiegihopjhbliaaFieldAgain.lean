/-
  That the law FieldAgain answers true and leaves all memory that was there as it was. Conditions: the slice can be read.
-/
import Derived.Test.YtiegihopjhbliaaFieldInt
import Derived.Test.YtiegihopjhbliaaFieldMore
namespace Go.Proofs.Ytiegihopjhbliaa.Fld
open Go.RowKit

theorem wholeB_bad (zs : List Int) : wholeB zs true = false := rfl
theorem take_code (x : Int) (t : List Int) : (intC x ++ t).take (intC x).length = intC x := List.take_left
set_option maxHeartbeats 800000 in
theorem again_bad (A : Option Addr) (n cap : Nat) (zs : List Int) (w : World) (hr0 : Rd w A n zs) (hA : A = none → cap = 0) (hn : n ≤ 140737488351232) (hc : cutInt zs = none) :
    Calls Try.prog 8 #[.slice A n cap] w fun e w' => e = .returned (.bool true) ∧ Below w.heap.size w w' := by
  have HN := Lib.hid (new_any A n cap zs w hr0 hA (by omega))
  have HC := Lib.hid hc
  clear hr0 hA hc
  go_enter Try.func8, Try.ntmps8
  go_wp2_with fail
  refine HN.out.mono ?_
  rintro e w1 ⟨g, rfl, hg, hr, hb⟩
  have HR := Lib.hid hr
  have HB := Lib.hid hb
  clear hr hb
  go_wp2_with fail
  refine (rint_bad g zs w1 false HR.out _ _ (.inr (.inl HC.out))).mono ?_
  rintro e w2 ⟨rfl, hch, hr2⟩
  have HR2 := Lib.hid hr2
  have HB2 := Lib.hid (Below.chg HB.out hch hg)
  clear hch hr2
  go_wp2_with fail
  refine (bad_any g zs true w2 HR2.out).mono ?_
  rintro e w3 ⟨rfl, rfl⟩
  go_wp2_with fail
  refine (whole_any g zs true w2 HR2.out).mono ?_
  rintro e w3 ⟨rfl, rfl⟩
  rw [wholeB_bad]
  go_wp2
  go_ret
  exact ⟨rfl, HB2.out⟩

set_option maxHeartbeats 800000 in
theorem again_ok (A : Option Addr) (n cap : Nat) (zs : List Int) (w : World) (hr0 : Rd w A n zs) (hnc : n ≤ cap) (hA : A = none → cap = 0) (hn : n ≤ 140737488351232) (x : Int) (t : List Int) (hc : cutInt zs = some (x, t)) :
    Calls Try.prog 8 #[.slice A n cap] w fun e w' => e = .returned (.bool true) ∧ Below w.heap.size w w' := by
  have HN := Lib.hid (new_any A n cap zs w hr0 hA (by omega))
  obtain ⟨hz, hx0, hx1⟩ := cutInt_back zs hr0.2.2.1 x t hc
  have HC := Lib.hid hc
  have HS := Lib.hid hr0
  have hlen := hr0.1
  rw [hz, List.length_append] at hlen
  have hcl := intC_len x
  have hdl := digs_len8 x.natAbs (by omega)
  generalize hK : (digs x.natAbs).length = k at *
  have hkn : k + 1 ≤ n := by omega
  have HTK := Lib.hid (show zs.take (k + 1) = intC x by rw [hz, ← hcl, take_code])
  have HCL := Lib.hid hcl
  clear hr0 hA hc hz hcl hlen hK
  go_enter Try.func8, Try.ntmps8
  go_wp2_with fail
  refine HN.out.mono ?_
  rintro e w1 ⟨g, rfl, hg, hr, hb⟩
  have HR := Lib.hid hr
  have HB := Lib.hid hb
  clear hr hb
  go_wp2_with fail
  refine (rint_ok g zs w1 HR.out x t HC.out _ _ hx0 hx1).mono ?_
  rintro e w2 ⟨rfl, hch, hr2⟩
  have HR2 := Lib.hid hr2
  have HB2 := Lib.hid (Below.chg HB.out hch hg)
  clear hch hr2
  go_wp2_with fail
  refine (bad_any g t false w2 HR2.out).mono ?_
  rintro e w3 ⟨rfl, rfl⟩
  go_wp2_with fail
  refine (int_any x hx0 hx1 w2).mono ?_
  rintro e w3 ⟨v, rfl, hO⟩
  obtain ⟨A3, c3, hv3, hs3, _⟩ := hO.sl (k + 1) HCL.out
  subst hv3
  have HB3 := Lib.hid (HB2.out.trans (hO.1.mono HB2.out.size))
  have q1 := fun j => conv_str (hs3.1.drewN j) c3
  have hr4 := (HS.out.below HB3.out).cut (k + 1) hkn
  rw [HTK.out] at hr4
  have q2 := fun j => conv_str (hr4.drewN j) cap
  have hm := HS.out.2.1
  unfold maxLen at hm
  clear hs3 hO hr4
  have j1 : ((k : Int) + 1) ≤ (n : Int) := by omega
  have j2 : ((k : Int) + 1) ≤ (cap : Int) := by omega
  have j3 : (0 : Int) ≤ (k : Int) := by omega
  have j4 : (0 : Int) ≤ (k : Int) + 1 := by omega
  have j5 : (1 : Int) ≤ (k : Int) + 1 := by omega
  go_wp2_with fail
  go_quiet (fail)
  go_wp2
  go_ret
  exact ⟨rfl, ⟨HB3.out.os, HB3.out.tape, HB3.out.output, HB3.out.size, HB3.out.block⟩⟩
theorem again_walk (A : Option Addr) (n cap : Nat) (zs : List Int) (w : World) (hr0 : Rd w A n zs) (hnc : n ≤ cap) (hA : A = none → cap = 0) (hn : n ≤ 140737488351232) :
    Calls Try.prog 8 #[.slice A n cap] w fun e w' => e = .returned (.bool true) ∧ Below w.heap.size w w' := by
  cases hc : cutInt zs with
  | none => exact again_bad A n cap zs w hr0 hA hn hc
  | some q => exact again_ok A n cap zs w hr0 hnc hA hn q.1 q.2 hc
end Go.Proofs.Ytiegihopjhbliaa.Fld
