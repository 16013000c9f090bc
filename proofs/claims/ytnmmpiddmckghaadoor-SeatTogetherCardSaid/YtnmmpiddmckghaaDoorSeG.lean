/-
  Layer 13: Label of the program. Conditions: the groups can be read.
-/
import Derived.Test.YtnmmpiddmckghaaDoorSeC
import Derived.Test.YtnmmpiddmckghaaDoorSeLab
import Derived.Test.YtnmmpiddmckghaaDoorShelf
import Derived.BigQuiet
import Derived.Deep.QuietTactic
import Derived.Deep.RegionWith
namespace Go.Proofs.YtnmmpiddmckghaaDoor.Se
open Go.RowKit Go.Proofs.YtnmmpiddmckghaaDoor.Qu Go.Proofs.YtnmmpiddmckghaaDoor.Fld
set_option linter.unusedVariables false

def letB : ByteArray := ⟨#[65, 66, 67, 68, 69, 70, 71, 72, 74, 75]⟩
theorem let_cut : ∀ c, c < 10 → letB.extract c (c + 1) = ⟨#[letU.getD c 0]⟩ := by decide +kernel
theorem dec_add (k c : Nat) (hk : k < 60) : (⟨(Lib.decDigits (k + 1)).toArray⟩ : ByteArray) ++ ⟨#[letU.getD c 0]⟩ = labS k c := by
  rw [decU_is (k + 1) (by omega)]
  exact ByteArray.mk_append_mk ..
theorem dec_size (k : Nat) (hk : k < 60) : (⟨(Lib.decDigits (k + 1)).toArray⟩ : ByteArray).size ≤ 2 := by
  rw [decU_is (k + 1) (by omega)]
  show (decU (k + 1)).toArray.size ≤ 2
  unfold decU
  split <;> simp
theorem let_run (c : Nat) (hc : c < 10) (U : World) : (Instr.slice 9 (.string ⟨#[65, 66, 67, 68, 69, 70, 71, 72, 74, 75]⟩) (some (.int .i64 (c : Int))) (some (.int .i64 ((c + 1 : Nat) : Int))) none).run Tryd.prog U = .ok (.string ⟨#[letU.getD c 0]⟩) U := by
  rw [run_slice_string _ _ _ _ _ _ _ Tryd.underlying9 (by omega) (by omega) (by show ((c + 1 : Nat) : Int) ≤ ((10 : Nat) : Int); omega)]
  rw [Int.toNat_natCast, Int.toNat_natCast]
  exact congrArg (fun x => Result.ok (Value.string x) U) (let_cut c hc)
theorem add_run (q m : Nat) (hq : q < 60) (U : World) : (Op.stringOp .add ⟨(Lib.decDigits (q + 1)).toArray⟩ ⟨#[letU.getD m 0]⟩).run Tryd.prog U = .ok (.string (labS q m)) U := by
  have h1 := dec_size q hq
  have h2 : (⟨#[letU.getD m 0]⟩ : ByteArray).size = 1 := rfl
  rw [run_string_add_sum _ _ _ (by omega), dec_add q m hq]
theorem itoa_q (k : Nat) (w : World) (j : Nat) (hk : k < 60) : Calls Tryd.prog 30 #[.int .i64 ((k + 1 : Nat) : Int)] (w.drewN j) fun e w' => e = .returned (.string ⟨(Lib.decDigits (k + 1)).toArray⟩) ∧ ∃ m, w' = w.drewN m :=
  (Tryd.strconv_Itoa_small (k + 1) (by omega) (w.drewN j)).mono fun e w' ⟨h1, h2⟩ => ⟨h1, j, h2⟩
/-- the answer of Label: the seat's name, and what is amiss -/
def lblE (r : Int) (gs : List Int) (n : Int) : Int := if inS r gs n = true then 0 else 1
def lblS (r : Int) (gs : List Int) (n : Int) : ByteArray := if inS r gs n = true then nm gs n else ⟨#[]⟩
set_option maxRecDepth 100000 in
set_option maxHeartbeats 3200000 in
theorem label_any (r : Int) (A : Option Addr) (n c : Nat) (gs : List Int) (x : Int) (w : World) (hr : RdI w A n gs) :
    Calls Tryd.prog 18 #[layV r A n c, .int .i64 x] w fun e w' => e = .returned (.tuple #[.string (lblS r gs x), .int .i64 (lblE r gs x)]) ∧ Below w.heap.size w w' := by
  have hb := alloc_below w (layO r A n c)
  have hr' := RdI.below hr hb
  have HK := layO_blk w r A n c
  unfold layO at *
  obtain ⟨W, hW⟩ : ∃ W, w.alloc (.cells #[.int .i64 r, .slice A n c] 24) = W := ⟨_, rfl⟩
  rw [hW] at hb hr' HK
  have HW := Lib.hid hW
  have HB := Lib.hid hb
  have HRD := Lib.hid (fun (w2 : World) (h2 : Below W.heap.size W w2) => hr'.below h2)
  have HX := Lib.hid (fun (w2 : World) (h2 : Below W.heap.size W w2) => (⟨(HK.below h2).cell 0 _ rfl, (HK.below h2).cell 1 _ rfl⟩ : w2.cell? ⟨w.heap.size, 0, none⟩ = some (.int .i64 r) ∧ w2.cell? ⟨w.heap.size, 1, none⟩ = some (.slice A n c)))
  have HBW := Lib.hid (Below.refl W.heap.size W)
  have HH := Lib.hid (has_any r A n c gs x W hr')
  have HIN := Lib.hid (show inS r gs x = true → 0 ≤ x ∧ x < cntS r gs by unfold inS; simp)
  have hcb := (cnt_bd r gs).2
  have hgl := hr.1
  clear hr hr' HK hb hW
  obtain ⟨c0, c1⟩ := HX.out _ (Below.refl _ _)
  cases hin : inS r gs x with
  | false =>
    have HS := Lib.hid (show lblS r gs x = ⟨#[]⟩ ∧ lblE r gs x = 1 by unfold lblS lblE; rw [hin]; exact ⟨rfl, rfl⟩)
    rw [hin] at HH
    unfold layV at *
    clear HIN hin
    go_enter Tryd.func18, Tryd.ntmps18
    go_wp2_with (first | rw [HW.out] | fail)
    refine HH.out.mono ?_
    rintro e w2 ⟨rfl, hb2⟩
    have HB2 := Lib.hid (HB.out.trans (hb2.mono HB.out.size))
    clear hb2
    go_wp2
    go_ret2
    exact ⟨by rw [HS.out.1, HS.out.2]; rfl, HB2.out⟩
  | true =>
    obtain ⟨hx0, hx1⟩ := HIN.out hin
    obtain ⟨hl, _⟩ := lay_cnt hx0 hx1
    obtain ⟨k1, k2, k3, k4, k5, k6, k7⟩ := lay_of hl
    obtain ⟨a1, a2, a3, a4, a5⟩ := row_lt hx0 hx1
    have HS := Lib.hid (show lblS r gs x = labS (x / gs.sum).toNat (x % gs.sum).toNat ∧ lblE r gs x = 0 by unfold lblS lblE; rw [hin]; exact ⟨rfl, rfl⟩)
    have HA := Lib.hid (fun (w2 : World) (h2 : RdI w2 A n gs) => across_any r A n c gs w2 h2 k5 (by omega))
    have hx9 : x ≤ 600 := by omega
    rw [hin] at HH
    unfold layV at *
    clear HIN hin hl k5 hx1 a5
    generalize gs.sum = S at *
    have hS0 : ¬ S = 0 := by omega
    have hS1 : (S == 0) = false := by simp; omega
    have hS2 : ¬ S = -1 := by omega
    go_enter Tryd.func18, Tryd.ntmps18
    go_wp2_with (first | rw [HW.out] | fail)
    refine HH.out.mono ?_
    rintro e w2 ⟨rfl, hb2⟩
    have HBW := Lib.hid (HBW.out.trans hb2)
    clear hb2 c0 c1
    obtain ⟨c0, c1⟩ := HX.out _ HBW.out
    go_wp2_with fail
    go_region_held3 (fun w' => w'.cell? ⟨w.heap.size, 0, none⟩ = some (.int .i64 r) ∧ w'.cell? ⟨w.heap.size, 1, none⟩ = some (.slice A n c)) (first | exact ⟨by assumption, by assumption⟩ | go_keep) (first | (go_at_call 28; refine (HA.out _ (HRD.out _ (by first | exact HBW.out | exact HBW.out.drew))).mono ?_; rintro e w2 ⟨rfl, hb2⟩; have HBW := Lib.hid ((show Below W.heap.size W _ from by first | exact HBW.out | exact HBW.out.drew).trans (hb2.mono (by exact HBW.out.size))); clear c0 c1 hb2; obtain ⟨c0, c1⟩ := HX.out _ HBW.out))
    all_goals
      rw [IntWalk.i64_quo x S ⟨hx0, by omega, k7⟩, Int.tmod_eq_emod_of_nonneg hx0]
      have HB2 := Lib.hid (HB.out.trans (HBW.out.mono HB.out.size))
      obtain ⟨q, hq⟩ : ∃ q : Nat, x / S = q := ⟨(x / S).toNat, by omega⟩
      obtain ⟨m, hm⟩ : ∃ m : Nat, x % S = m := ⟨(x % S).toNat, by omega⟩
      rw [hq, hm] at HS
      rw [hq, hm]
      have hq9 : q < 60 := by omega
      have hm9 : m < 10 := by omega
      have e1 : IntKind.i64.wrap ((q : Int) + 1) = ((q + 1 : Nat) : Int) := (IntWalk.i64_in _ (by omega)).trans (by omega)
      have e2 : IntKind.i64.wrap ((m : Int) + 1) = ((m + 1 : Nat) : Int) := (IntWalk.i64_in _ (by omega)).trans (by omega)
      have HI := Lib.hid (fun k => itoa_q q w2 k hq9)
      have p1 : ∀ U : World, (Instr.slice 9 (.string ⟨#[65, 66, 67, 68, 69, 70, 71, 72, 74, 75]⟩) (some (.int .i64 (m : Int))) (some (.int .i64 ((m + 1 : Nat) : Int))) none).run Tryd.prog U = .ok (.string ⟨#[letU.getD m 0]⟩) U := fun U => let_run m hm9 U
      have p2 : ∀ U : World, (Op.stringOp .add ⟨(Lib.decDigits (q + 1)).toArray⟩ ⟨#[letU.getD m 0]⟩).run Tryd.prog U = .ok (.string (labS q m)) U := fun U => add_run q m hq9 U
      have HS2 := Lib.hid (show lblS r gs x = labS q m ∧ lblE r gs x = 0 from HS.out)
      clear HS hq hm a1 a2 a3 a4
      generalize Lib.decDigits (q + 1) = dd at *
      generalize letU.getD m 0 = le at *
      generalize labS q m = LB at *
      generalize ((m + 1 : Nat) : Int) = m1 at *
      generalize ((q + 1 : Nat) : Int) = q1 at *
      go_wp2_with fail
      go_quiet ((go_at_call 30; exact HI.out _))
      go_wp2
      go_ret2
      exact ⟨by rw [HS2.out.1, HS2.out.2]; rfl, HB2.out.trans ((below_dr w2 nq).mono HB2.out.size)⟩
end Go.Proofs.YtnmmpiddmckghaaDoor.Se
