/-
  Several texts in one: Layer 12, the law RaftAlone: its first question, and what a round makes of the node. Conditions: as each theorem states. Layer 12, the law RaftAlone: its first question: a node that is alone leads behind one tick. No condition.
-/
import Derived.Test.YtjadfpcipicckaaGreatJRfP
import Derived.Test.YtjadfpcipicckaaGreatRfOpn
namespace Go.Proofs.YtjadfpcipicckaaGreat.Rf
open Go.RowKit Go.Shelf Go.Proofs.YtjadfpcipicckaaGreat.Fld
open Go.Proofs.YtjadfpcipicckaaGreat.Qu (RdI)
set_option linter.unusedVariables false

/-- the elector of node 1 behind the tick by which it leads -/
def led (t : Int) : El.St := ⟨1, 1, t + 1, 1, [1], [], 3, 1, 0, 1, El.onlyA 1⟩
theorem tick_led (t : Int) (h : t ≠ El.MX) : El.tick (El.st0 1 t 0 [1] [] 1) 0 0 0 = (led t, []) := by
  have hw : El.wonA [1] (El.onlyA 1) = true := by decide
  have hh : Qu.hasI [1] 1 = true := by decide
  have e : (1 : Int) + (max (0 : Int) 0).tmod 1 = 1 := by decide
  unfold El.tick
  rw [if_neg (by show ¬ (0 : Int) = 3; omega), if_neg (by rintro (h0 | h0); exact absurd h0 (by show ¬ (0 : Int) + 1 < 1; omega); exact absurd h0 (by show ¬ Qu.hasI [1] 1 = false; rw [hh]; simp))]
  show El.hope ⟨1, 1, t, 0, [1], [], 0, 0, 0, 1 + (max (0 : Int) 0).tmod 1, El.noneA⟩ 0 0 = _
  rw [e]
  unfold El.hope
  rw [if_pos hw]
  unfold El.run
  rw [if_neg (show ¬ (El.hoped ⟨1, 1, t, 0, [1], [], 0, 0, 0, 1, El.noneA⟩).term = El.MX from h), if_pos (show El.wonA (El.hoped ⟨1, 1, t, 0, [1], [], 0, 0, 0, 1, El.noneA⟩).vs (El.onlyA (El.hoped ⟨1, 1, t, 0, [1], [], 0, 0, 0, 1, El.noneA⟩).id) = true from hw)]
  rfl
theorem new_led (t : Int) (h0 : 0 ≤ t) (h1 : t ≤ 1099511627776) : NewOk 1 t 0 0 0 1 1 0 [] := by
  refine ⟨?_, by decide, by decide, by omega, by omega, by decide, (fun x hx => by cases hx), by simp⟩
  simp only [El.newOk, El.okHard, El.okTerm, El.MX, El.okNode]
  have : Qu.grpOk [1] [] = true := by decide
  simp [this]
  omega
/-- what holds of the node behind each round -/
structure Rnd (t : Int) (n : Nat) (b : PB) (s : AS) : Prop where
  e : s.e = led t
  base : s.g.base = 0
  last : s.g.last = n
  com : s.g.com = n
  lt : s.g.lt = t + 1
  xs : b.xs.length = n
  rd : s.rd = []
  pm : ∃ m, b.pm = some m
theorem new_last (t : Int) : (new0 1 t 0 0 0 1 1 (Rg.ens [])).g.last = 0 ∧ (new0 1 t 0 0 0 1 1 (Rg.ens [])).g.lt = 0 := ⟨rfl, rfl⟩
theorem rnd_first (t : Int) {b b' : PB} (hx : b'.xs.length = b.xs.length + 1) (hb : b.xs.length = 0) {m : Nat} (hm : b'.pm = some m) : Rnd t 1 b' (putS { new0 1 t 0 0 0 1 1 (Rg.ens []) with e := led t } 0 []) := by
  refine ⟨rfl, rfl, ?_, rfl, lt_add { new0 1 t 0 0 0 1 1 (Rg.ens []) with e := led t } 0 [], by omega, rfl, ⟨m, hm⟩⟩
  exact last_add { new0 1 t 0 0 0 1 1 (Rg.ens []) with e := led t } 0 []
theorem rnd_add {t : Int} {n : Nat} {b : PB} {s : AS} (h : Rnd t n b s) (hn : n ≤ 1000) (data : List Int) (hd : data.length ≤ 4096) : AddOk s 1 data b.xs.length := by
  refine ⟨by rw [h.last]; omega, ?_, by omega, by omega, by omega, hd, by rw [h.xs]; omega⟩
  rw [h.lt, h.e]
  exact Int.le_refl _
theorem rnd_put {t : Int} {n : Nat} {b b' : PB} {s : AS} (h : Rnd t n b s) (data : List Int) (hx : b'.xs.length = b.xs.length + 1) (hm : b'.pm = b.pm) : Rnd t (n + 1) b' (putS s 1 data) := by
  have hl := last_add s 1 data
  have ht := lt_add s 1 data
  refine ⟨h.e, h.base, ?_, ?_, ?_, by rw [hx, h.xs], h.rd, by rw [hm]; exact h.pm⟩
  · show (putS s 1 data).g.last = _
    have : (putS s 1 data).g.last = s.g.last + 1 := hl
    rw [this, h.last]; simp
  · show s.g.last + 1 = _
    rw [h.last]; simp
  · have : (putS s 1 data).g.lt = s.e.term := ht
    rw [this, h.e]; rfl
theorem rnd_settled {t : Int} {n : Nat} {b : PB} {s : AS} (h : Rnd t n b s) : Rg.termV s.g s.g.com = s.e.term := by
  have e1 : s.g.com = s.g.last := by rw [h.com, h.last]
  rw [e1, (Rg.termV_last s.g).2, h.lt, h.e]
  rfl
theorem rnd_out {t : Int} {n : Nat} {b : PB} {s : AS} (h : Rnd t n b s) (v : Value) : Rnd t n { b with rv := v } { s with hT := s.e.term, hV := s.e.vote, frm := 0, rd := [] } := ⟨h.e, h.base, h.last, h.com, h.lt, h.xs, rfl, h.pm⟩
/-- the entry that was put is given -/
theorem get_put {s : AS} {data : List Int} (h0 : 0 ≤ s.g.base) : Rg.getE (putS s 1 data).g (s.g.last + 1) 1 = [entN s 1 data] := by
  have hl : (putS s 1 data).g.last = s.g.last + 1 := last_add s 1 data
  have hb : (putS s 1 data).g.base = s.g.base := rfl
  have hes : (putS s 1 data).g.es = s.g.es ++ [entN s 1 data] := rfl
  have hs : s.g.last = s.g.base + s.g.es.length := rfl
  unfold Rg.getE
  rw [hl, hb, hes, if_neg (by omega)]
  have : (s.g.last + 1 - s.g.base - 1).toNat = s.g.es.length := by omega
  rw [this, List.drop_left]
  rfl
end Go.Proofs.YtjadfpcipicckaaGreat.Rf

namespace Go.Proofs.YtjadfpcipicckaaGreat.Rf
open Go.RowKit Go.Shelf Go.Proofs.YtjadfpcipicckaaGreat.Fld
open Go.Proofs.YtjadfpcipicckaaGreat.Qu (RdI)
set_option linter.unusedVariables false

theorem new_tick {w : World} {t : Int} {b : PB} (h : Al w.heap.size w b (new0 1 t 0 0 0 1 1 (Rg.ens []))) : True := trivial
/-- node 1, alone, is made -/
theorem new_one (t : Int) (h0 : 0 ≤ t) (h1 : t ≤ 1099511627776) (w : World) : Calls Tryz.prog 6 #[.int .i64 1, .agg #[.int .i64 t, .int .i64 0], snV 0 0 (some ⟨w.heap.size, 0, none⟩) 1 1 none 0 0 none 0 0, .slice none 0 0, .agg #[.int .i64 1, .int .i64 1]] (w.alloc (.cells #[.int .i64 1] 3)) (MadeIs (w.alloc (.cells #[.int .i64 1] 3)) (new0 1 t 0 0 0 1 1 (Rg.ens []))) :=
  new_any 1 t 0 0 0 1 1 (some ⟨w.heap.size, 0, none⟩) 1 none 0 none 0 0 [] rfl none 0 0 [] _ (new_led t h0 h1) (Qu.rdI_one w 1) (Fld.Rd.nil _) (fun _ => rfl) ⟨rfl, by unfold maxLen; omega, fun h => by omega, fun x hx => by cases hx⟩ (fun _ => rfl)
theorem tick_one {lo : Nat} {w : World} {b : PB} (t : Int) (h0 : 0 ≤ t) (h1 : t ≠ El.MX) (h : Al lo w b (new0 1 t 0 0 0 1 1 (Rg.ens []))) (hx : b.xs.length = 0) :
    Calls Tryz.prog 12 #[.pointer (some ⟨b.nb, 0, none⟩), .int .i64 0] w fun e w' => e = .returned (.tuple #[]) ∧ ∃ b' s', Aft lo w w' b b' s' ∧ Rnd t 1 b' s' := by
  refine (tick_leads 0 (led t) h (by show (0 : Int) ≤ 1000000000; omega) (by show ¬ (0 : Int) = 3; omega) (tick_led t h1) rfl rfl rfl rfl ⟨by show (0 : Int) < 1099511627776; omega, by show (0 : Int) ≤ t + 1; omega, by omega, by omega, by omega, by simp, by omega⟩).mono ?_
  rintro e w' ⟨rfl, p', v', xs', m, hA, hl⟩
  exact ⟨rfl, _, _, hA, rnd_first t hl hx rfl⟩
set_option maxHeartbeats 800000 in
theorem awake_any (w : World) : Calls Tryz.prog 4 #[] w fun e w' => e = .returned (.bool true) ∧ Below w.heap.size w w' := by
  have hal := Rg.alloc_below' w (.cells #[.int .i64 1] 3)
  have HAL := Lib.hid hal
  have HN := Lib.hid (new_one 0 (by omega) (by omega) w)
  have HTK := Lib.hid (fun (W : World) (lo : Nat) (b : PB) (h : Al lo W b (new0 1 0 0 0 0 1 1 (Rg.ens []))) hx => tick_one 0 (by omega) (by unfold El.MX; omega) h hx)
  unfold snV at HN
  clear hal
  go_enter Tryz.func4, Tryz.ntmps4
  go_wp2_with fail
  refine HN.out.mono ?_
  rintro e w1 ⟨b, rfl, hA, hb, hpm, hrv, hxs⟩
  have HA := Lib.hid hA
  have HB1 := Lib.hid (HAL.out.trans (hb.mono HAL.out.size))
  have HT := Lib.hid (HTK.out w1 _ b hA hxs)
  clear hA hb hpm hrv hxs
  go_wp2_with fail
  refine HT.out.mono ?_
  rintro e w2 ⟨rfl, b2, s2, hA2, hr2⟩
  have HA2 := Lib.hid hA2
  have HR2 := Lib.hid hr2
  have HB2 := Lib.hid (Dk.Fr.to_below HB1.out hA2.fr (fun i hi => Nat.le_trans HAL.out.size (HA.out.lo i hi)))
  have c0 : w2.cell? ⟨b.nb, 0, none⟩ = some (.pointer (some ⟨b2.p.g, 0, none⟩)) := by rw [← hA2.nb]; exact hA2.im.c0
  have HRO := Lib.hid (El.role_any b2.p s2.e w2 hA2.im.el)
  have hco := committed_any hA2.im
  rw [hA2.nb] at hco
  have HCO := Lib.hid hco
  rw [hr2.e] at HRO
  rw [hr2.com] at HCO
  clear hA2 hr2 hco
  go_wp2_with fail
  refine HRO.out.mono ?_
  rintro e w' ⟨rfl, rfl⟩
  unfold led
  go_wp2_with fail
  refine HCO.out.mono ?_
  rintro e w' ⟨rfl, rfl⟩
  go_wp2
  go_ret
  exact ⟨by rfl, HB2.out⟩
end Go.Proofs.YtjadfpcipicckaaGreat.Rf
