/-
  Layer 10, in the program: validNode, validTerm, validHard, isOther, newer, lead, stepDown, said, outcome. Conditions: as each theorem states.
-/
import Derived.Test.YtnhcbampojpgfaaGreatElMem
import Derived.Test.YtnhcbampojpgfaaGreatQuV2
import Derived.Deep.RegionHeld3
import Derived.Deep.RegionWith
import Derived.Deep.RegionLaw
namespace Go.Proofs.YtnhcbampojpgfaaGreat.El
open Go.RowKit Go.Proofs.YtnhcbampojpgfaaGreat.Qu Go.Proofs.YtnhcbampojpgfaaGreat.Fld
set_option linter.unusedVariables false

theorem validNode_any (n : Int) (w : World) : Calls Tryz.prog 93 #[.int .i64 n] w fun e w' => e = .returned (.bool (okNode n)) ∧ w = w' := by
  have he : okNode n = (decide (1 ≤ n) && decide (n ≤ 15)) := rfl
  by_cases h0 : 1 ≤ n
  · by_cases h1 : n ≤ 15
    · rw [he, decide_eq_true h0, decide_eq_true h1]
      clear he
      go_enter Tryz.func93, Tryz.ntmps93
      go_wp2
      go_ret
      exact ⟨rfl, rfl⟩
    · have h2 : decide (n ≤ 15) = false := decide_eq_false h1
      rw [he, decide_eq_true h0, h2]
      clear he
      go_enter Tryz.func93, Tryz.ntmps93
      go_wp2
      go_ret
      exact ⟨rfl, rfl⟩
  · have h2 : decide (1 ≤ n) = false := decide_eq_false h0
    rw [he, h2]
    clear he
    go_enter Tryz.func93, Tryz.ntmps93
    go_wp2
    go_ret
    exact ⟨rfl, rfl⟩
theorem validTerm_any (n : Int) (w : World) : Calls Tryz.prog 172 #[.int .i64 n] w fun e w' => e = .returned (.bool (okTerm n)) ∧ w = w' := by
  have he : okTerm n = (decide (0 ≤ n) && decide (n ≤ 1099511627776)) := rfl
  by_cases h0 : 0 ≤ n
  · by_cases h1 : n ≤ 1099511627776
    · rw [he, decide_eq_true h0, decide_eq_true h1]
      clear he
      go_enter Tryz.func172, Tryz.ntmps172
      go_wp2
      go_ret
      exact ⟨rfl, rfl⟩
    · have h2 : decide (n ≤ 1099511627776) = false := decide_eq_false h1
      rw [he, decide_eq_true h0, h2]
      clear he
      go_enter Tryz.func172, Tryz.ntmps172
      go_wp2
      go_ret
      exact ⟨rfl, rfl⟩
  · have h2 : decide (0 ≤ n) = false := decide_eq_false h0
    rw [he, h2]
    clear he
    go_enter Tryz.func172, Tryz.ntmps172
    go_wp2
    go_ret
    exact ⟨rfl, rfl⟩
theorem isOther_any (p : Pl) (s : St) (n : Int) (w : World) (h : Im w p s) : Calls Tryz.prog 228 #[.pointer (some ⟨p.g, 0, none⟩), .int .i64 n] w fun e w' => e = .returned (.bool (other s n)) ∧ w = w' := by
  have c0 := h.blk.cells.1
  have HV := Lib.hid (validNode_any n w)
  have he : other s n = (okNode n && (n != s.id)) := by
    unfold other
    by_cases hn : n = s.id <;> simp [hn]
  rw [he]
  clear h
  cases hv : okNode n with
  | false =>
    rw [hv] at HV
    go_enter Tryz.func228, Tryz.ntmps228
    go_wp2_with (go_at_call 93; refine HV.out.mono ?_; rintro e w' ⟨rfl, rfl⟩)
    go_ret
    exact ⟨rfl, rfl⟩
  | true =>
    rw [hv] at HV
    go_enter Tryz.func228, Tryz.ntmps228
    go_wp2_with (go_at_call 93; refine HV.out.mono ?_; rintro e w' ⟨rfl, rfl⟩)
    go_ret
    exact ⟨rfl, rfl⟩
theorem lead_any (p : Pl) (s : St) (w : World) (h : Im w p s) : Calls Tryz.prog 256 #[.pointer (some ⟨p.g, 0, none⟩)] w fun e w' => e = .returned (.tuple #[]) ∧ Did w w' p (leadS s) := by
  have h1 := h.set 6 (.int .i64 3) (s' := { s with role := 3 }) rfl (by omega) rfl rfl rfl (role_ok h.ok (by omega))
  have h2 := h1.im.set 7 (.int .i64 s.id) (s' := leadS s) rfl (by omega) rfl rfl rfl (leadS_ok h.ok)
  have HD := Lib.hid (h1.then h2)
  obtain ⟨c0, _, _, _, _, _, c6, c7, _, _, _⟩ := h.blk.cells
  have f6 := Blk.free h.blk 6
  have f7 := Blk.free h1.im.blk 7
  clear h h1 h2
  go_enter Tryz.func256, Tryz.ntmps256
  go_wp2
  go_end0
  exact ⟨rfl, HD.out⟩
set_option maxHeartbeats 800000 in
theorem stepDown_any (p : Pl) (s : St) (t : Int) (w : World) (h : Im w p s) (ht : okTerm t = true) : Calls Tryz.prog 234 #[.pointer (some ⟨p.g, 0, none⟩), .int .i64 t] w fun e w' => e = .returned (.tuple #[]) ∧ Did w w' p (down s t) := by
  have h1 := h.set 2 (.int .i64 t) (s' := { s with term := t, vote := s.vote }) rfl (by omega) rfl rfl rfl ⟨h.ok.id1, by have := (okHard_iff _ _).1 h.ok.hard; exact (okHard_iff _ _).2 ⟨(okTerm_iff _).1 ht, this.2⟩, h.ok.grp, h.ok.pat1, h.ok.w0, h.ok.lm, h.ok.role, h.ok.lead, h.ok.am⟩
  have h2 := h1.im.set 3 (.int .i64 0) (s' := { s with term := t, vote := 0 }) rfl (by omega) rfl rfl rfl ⟨h.ok.id1, by have := (okHard_iff _ _).1 h.ok.hard; exact (okHard_iff _ _).2 ⟨(okTerm_iff _).1 ht, .inl rfl⟩, h.ok.grp, h.ok.pat1, h.ok.w0, h.ok.lm, h.ok.role, h.ok.lead, h.ok.am⟩
  have h3 := h2.im.set 6 (.int .i64 0) (s' := { s with term := t, vote := 0, role := 0 }) rfl (by omega) rfl rfl rfl (role_ok h2.im.ok (by omega))
  have h4 := h3.im.set 7 (.int .i64 0) (s' := { s with term := t, vote := 0, role := 0, lead := 0 }) rfl (by omega) rfl rfl rfl ⟨h3.im.ok.id1, h3.im.ok.hard, h3.im.ok.grp, h3.im.ok.pat1, h3.im.ok.w0, h3.im.ok.lm, h3.im.ok.role, by simp, h3.im.ok.am⟩
  obtain ⟨w5, hrun, hm5, ht5⟩ := h4.im.map.clear
  have h5 := h4.im.mapped ht5 (s' := down s t) hm5 rfl rfl rfl (down_ok h.ok ht)
  have HD := Lib.hid ((((h1.then h2).then h3).then h4).then h5)
  obtain ⟨c0, _, c2, c3, _, _, c6, c7, _, _, _⟩ := h.blk.cells
  have f2 := Blk.free h.blk 2
  have f3 := Blk.free h1.im.blk 3
  have f6 := Blk.free h2.im.blk 6
  have f7 := Blk.free h3.im.blk 7
  have c10 := h4.im.blk.cells.2.2.2.2.2.2.2.2.2.2
  clear h h1 h2 h3 h4 h5 hm5 ht5
  go_enter Tryz.func234, Tryz.ntmps234
  go_wp2
  go_end0
  exact ⟨rfl, HD.out⟩
set_option maxRecDepth 100000 in
set_option maxHeartbeats 1600000 in
theorem said_any (p : Pl) (s : St) (a : Int) (w : World) (h : Im w p s) : Calls Tryz.prog 279 #[.pointer (some ⟨p.g, 0, none⟩), .int .i64 a] w fun e w' => ∃ v, e = .returned v ∧ OwnI w w' v (saidL s.am a) := by
  have HIM := Lib.hid h
  have HT := Lib.hid (saidTo_succ s.am a)
  have HLE := Lib.hid (saidTo_len s.am a)
  clear h
  go_enter Tryz.func279, Tryz.ntmps279
  go_wp2_with fail
  go_loopw [5, 6] (fun v i wr => ∃ k : Nat, k ≤ 15 ∧ i = .int .i64 ((k : Int) + 1) ∧ OwnI w wr v (saidTo s.am a k)) (fun _ i _ => 16 - (intOf i).toNat)
  case atStart => exact ⟨0, Nat.zero_le _, rfl, OwnI.nil _ _ (Below.refl _ _)⟩
  case round =>
    obtain ⟨k, hk, rfl, hO⟩ := hrel
    have HO := Lib.hid hO
    have HI := Lib.hid (HIM.out.below hO.1)
    clear hO
    have c10 := HI.out.blk.cells.2.2.2.2.2.2.2.2.2.2
    by_cases hlt : k < 15
    · have hrun := HI.out.map.look (k := (k : Int) + 1) ⟨by omega, by omega⟩
      have hle := HLE.out k
      have HT1 := Lib.hid (HT.out k)
      generalize hrr : saidTo s.am a k = rr at *
      have q2 : decide ((k : Int) + 1 ≤ 15) = true := by simp; omega
      cases hb : (s.am ((k : Int) + 1) == a) with
      | true =>
        rw [hb] at HT1
        have HT2 := Lib.hid (show saidTo s.am a (k + 1) = rr ++ [(k : Int) + 1] by rw [HT1.out]; rfl)
        have HO2 := Lib.hid (HO.out.below (alloc_below wr (.cells #[.int .i64 ((k : Int) + 1)] 3)))
        go_wp2_with (at_builtin; refine wpList_append_ints rfl _ _ rfl w _ rr rfl HO2.out _ 1 1 [(k : Int) + 1] rfl (fun h => by cases h) (rdI_one wr ((k : Int) + 1)) (by omega) ?_; intro v3 w3 hO3 _; have HO3 := Lib.hid hO3; clear hO3)
        go_roundw
        case rel => exact ⟨k + 1, by omega, by go_num, by rw [HT2.out]; exact HO3.out⟩
        case measure => simp [intOf]; omega
      | false =>
        rw [hb] at HT1
        have HT2 := Lib.hid (show saidTo s.am a (k + 1) = rr by rw [HT1.out]; simp)
        go_wp2_with fail
        go_roundw
        case rel => exact ⟨k + 1, by omega, by go_num, by rw [HT2.out]; exact HO.out⟩
        case measure => simp [intOf]; omega
    · obtain rfl : k = 15 := by omega
      go_wp2
      go_ret
      exact ⟨_, rfl, HO.out⟩
end Go.Proofs.YtnhcbampojpgfaaGreat.El
