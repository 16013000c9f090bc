/-
  Layer 12, a node that is alone: put, Propose. Conditions: the node lies in memory, leads; its log has room.
-/
import Derived.Test.YtnhcbampojpgfaaGreatRfI
namespace Go.Proofs.YtnhcbampojpgfaaGreat.Rf
open Go.RowKit Go.Shelf Go.Proofs.YtnhcbampojpgfaaGreat.Fld
open Go.Proofs.YtnhcbampojpgfaaGreat.Qu (RdI)
set_option linter.unusedVariables false

theorem lt_add (s : AS) (kind : Int) (data : List Int) : (addS s kind data).g.lt = s.e.term := by
  unfold addS Rg.St.lt
  rw [Rg.lastT_eq]
  rw [if_neg (by simp)]
  simp [entN, List.getD_eq_getElem?_getD]
theorem last_add (s : AS) (kind : Int) (data : List Int) : (addS s kind data).g.last = s.g.last + 1 := by
  unfold addS Rg.St.last
  simp
  omega
/-- an entry is put behind, and is committed at once -/
def putS (s : AS) (kind : Int) (data : List Int) : AS := { addS s kind data with g := { (addS s kind data).g with com := s.g.last + 1 } }
theorem putS_eq (s : AS) (kind : Int) (data : List Int) : ({ addS s kind data with g := { (addS s kind data).g with com := (addS s kind data).g.last } } : AS) = putS s kind data := by
  rw [last_add]; rfl
theorem com_put {lo : Nat} {w : World} {b : PB} {s : AS} (h : Al lo w b s) (kind : Int) (data : List Int) : (addS s kind data).g.com < (addS s kind data).g.last := by
  rw [last_add]
  have := h.lg.ok.cl
  show s.g.com < s.g.last + 1
  omega
set_option maxHeartbeats 1600000 in
theorem put_any {lo : Nat} {w : World} {b : PB} {s : AS} (kind : Int) (data : List Int) (DA : Option Addr) (dn dc : Nat) (hdn : data.length = dn) (h : Al lo w b s) (hr : s.e.role = 3 → ∃ m, b.pm = some m) (ho : AddOk s kind data b.xs.length) (hd : Fld.Rd w DA dn data) (hA : DA = none → dc = 0) :
    Calls Tryz.prog 36 #[.pointer (some ⟨b.nb, 0, none⟩), .int .i64 kind, .slice DA dn dc] w fun e w' => e = .returned (.tuple #[.int .i64 (s.g.last + 1), .int .i64 0]) ∧ ∃ p' v' xs', Aft lo w w' b { b with p := p', v := v', xs := xs' } (putS s kind data) ∧ xs'.length = b.xs.length + 1 := by
  have HAD := Lib.hid (add_any kind data DA dn dc hdn h hr ho hd hA)
  have HC := Lib.hid (com_put h kind data)
  have HL := Lib.hid (lt_add s kind data)
  have HP := Lib.hid (putS_eq s kind data)
  have HLL := Lib.hid (show (putS s kind data).g.last = s.g.last + 1 from last_add s kind data)
  clear h hr ho hd hA
  go_enter Tryz.func36, Tryz.ntmps36
  go_wp2_with fail
  refine HAD.out.mono ?_
  rintro e w1 ⟨rfl, p', v', xs', hA1, hl⟩
  have HA1 := Lib.hid hA1
  have HXL := Lib.hid hl
  have HAV := Lib.hid (advance_any hA1.im HC.out HL.out)
  rw [HP.out] at HAV
  clear hA1 hl
  go_wp2_with fail
  refine HAV.out.mono ?_
  rintro e w2 ⟨rfl, hA2⟩
  have HA2 := Lib.hid (HA1.out.then hA2)
  have HAL := Lib.hid (all_any hA2.im)
  clear hA2
  go_wp2_with fail
  refine HAL.out.mono ?_
  rintro e w3 ⟨rfl, hb3⟩
  have HA3 := Lib.hid (HA2.out.to hb3)
  have c3 := HA3.out.im.c3
  have HLA := Lib.hid (HA3.out.im.last w3 (Below.refl _ _))
  rw [HLL.out] at HLA
  clear hb3
  go_wp2_with fail
  refine HLA.out.mono ?_
  rintro e w' ⟨rfl, m, rfl⟩
  have HA4 := Lib.hid (HA3.out.to (Qu.below_dr w3 m))
  go_wp2
  go_ret2
  exact ⟨rfl, p', v', xs', HA4.out, HXL.out⟩
set_option maxHeartbeats 800000 in
theorem propose_any {lo : Nat} {w : World} {b : PB} {s : AS} (data : List Int) (DA : Option Addr) (dn dc : Nat) (hdn : data.length = dn) (h : Al lo w b s) (h3 : s.e.role = 3) (hr : ∃ m, b.pm = some m) (ho : AddOk s 1 data b.xs.length) (hd : Fld.Rd w DA dn data) (hA : DA = none → dc = 0) :
    Calls Tryz.prog 13 #[.pointer (some ⟨b.nb, 0, none⟩), .slice DA dn dc] w fun e w' => e = .returned (.tuple #[.int .i64 (s.g.last + 1), .int .i64 0]) ∧ ∃ p' v' xs', Aft lo w w' b { b with p := p', v := v', xs := xs' } (putS s 1 data) ∧ xs'.length = b.xs.length + 1 := by
  have c0 := h.c0
  have HRO := Lib.hid (El.role_any b.p s.e w h.el)
  rw [h3] at HRO
  have HPU := Lib.hid (put_any 1 data DA dn dc hdn h (fun _ => hr) ho hd hA)
  have hl : ¬ (4096 : Int) < (dn : Int) := by have := ho.data; omega
  clear h h3 hr ho hd hA
  go_enter Tryz.func13, Tryz.ntmps13
  go_wp2_with fail
  refine HRO.out.mono ?_
  rintro e w' ⟨rfl, rfl⟩
  go_wp2_with fail
  refine HPU.out.mono ?_
  rintro e w1 ⟨rfl, hx⟩
  have HX := Lib.hid hx
  clear hx
  go_wp2
  go_ret2
  exact ⟨rfl, HX.out⟩
end Go.Proofs.YtnhcbampojpgfaaGreat.Rf
