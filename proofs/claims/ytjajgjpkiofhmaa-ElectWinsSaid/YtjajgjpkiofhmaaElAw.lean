/-
  Layer 10, the laws' first question: awake. No condition.
-/
import Derived.Test.YtjajgjpkiofhmaaElN2
namespace Go.Proofs.Ytjajgjpkiofhmaa.El
open Go.RowKit Go.Proofs.Ytjajgjpkiofhmaa.Qu Go.Proofs.Ytjajgjpkiofhmaa.Fld
set_option linter.unusedVariables false

theorem Made.ft {w w' : World} {p : Pl} {s : St} (h : Made w w' p s) : ∀ i ∈ p.ft, w.heap.size ≤ i := fun i hi => (h.new i (by simp only [Pl.ft, Pl.all, List.mem_cons, List.not_mem_nil, or_false] at hi ⊢; rcases hi with rfl | rfl <;> simp)).1
theorem Made.then {w w1 w' : World} {p : Pl} {s s' : St} (h : Made w w1 p s) (k : Did w1 w' p s') : Made w w' p s' :=
  ⟨k.im, Dk.Fr.to_below h.bel k.fr h.ft, fun i hi => ⟨(h.new i hi).1, Nat.lt_of_lt_of_le (h.new i hi).2 k.fr.size⟩⟩
theorem Made.to {w w1 w' : World} {p : Pl} {s : St} (h : Made w w1 p s) (hb : Below w1.heap.size w1 w') : Made w w' p s := h.then (Did.same h.im hb)
theorem Made.past {w w1 w' : World} {p : Pl} {s : St} (hb : Below w.heap.size w w1) (h : Made w1 w' p s) : Made w w' p s :=
  ⟨h.im, hb.trans (h.bel.mono hb.size), fun i hi => ⟨Nat.le_trans hb.size (h.new i hi).1, (h.new i hi).2⟩⟩
theorem first_tick : (tick (st0 1 0 0 [1] [] 1) 0 0 0).1.role = 3 ∧ (tick (st0 1 0 0 [1] [] 1) 0 0 0).1.term = 1 ∧ (tick (st0 1 0 0 [1] [] 1) 0 0 0).1.wait = 0 := by decide
theorem field_hard (a b : Int) (W : World) : (Instr.field 23 (.agg #[.int .i64 a, .int .i64 b]) 0).run Try.prog W = .ok (.int .i64 a) W := by kernel_rfl
theorem first_new : newOk 1 0 0 [1] [] 1 = true := by decide
set_option maxRecDepth 100000 in
set_option maxHeartbeats 1600000 in
theorem awake_any (w : World) : Calls Try.prog 9 #[] w fun e w' => e = .returned (.bool true) ∧ Below w.heap.size w w' := by
  have HA := Lib.hid (alloc_below w (.cells #[.int .i64 1] 3))
  have HN := Lib.hid (new_ok 1 0 0 1 (some ⟨w.heap.size, 0, none⟩) 1 [1] none 0 [] _ (rdI_one w 1) (RdI.nil _ _) first_new)
  have HF := Lib.hid first_tick
  unfold grpV at HN
  go_enter Try.func9, Try.ntmps9
  go_wp2_with fail
  refine HN.out.mono ?_
  rintro e w1 ⟨p, rfl, hm⟩
  have HM := Lib.hid (Made.past HA.out hm)
  clear hm
  go_wp2_with fail
  refine (tick_any p _ 0 0 0 w1 HM.out.im (by show (0 : Int) ≤ _; omega)).mono ?_
  rintro e w2 ⟨v2, rfl, hA⟩
  have HM2 := Lib.hid (HM.out.then hA.did)
  clear hA
  generalize (tick (st0 1 0 0 [1] [] 1) 0 0 0).1 = s2 at *
  have hr := HF.out.1
  have ht := HF.out.2.1
  have HR := Lib.hid (role_any p s2 w2 HM2.out.im)
  have HH := Lib.hid (hard_any p s2 w2 HM2.out.im)
  have hfd := field_hard 1 s2.vote
  rw [hr] at HR
  rw [ht] at HH
  go_wp2_with (first | (go_at_call 22; refine HR.out.mono ?_; rintro e w' ⟨rfl, rfl⟩) | (go_at_call 21; refine HH.out.mono ?_; rintro e w3 ⟨rfl, hb3⟩; have HB3 := Lib.hid (HM2.out.to hb3).bel; clear hb3))
  go_ret
  exact ⟨rfl, HB3.out⟩
end Go.Proofs.Ytjajgjpkiofhmaa.El
