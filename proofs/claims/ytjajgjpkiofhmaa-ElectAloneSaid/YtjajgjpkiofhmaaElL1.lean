/-
  Layer 10, the law ElectAlone: its walk. Conditions: the numbers fit.
-/
import Derived.Test.YtjajgjpkiofhmaaElAw
import Derived.Deep.CutRange
namespace Go.Proofs.Ytjajgjpkiofhmaa.El
open Go.RowKit Go.Proofs.Ytjajgjpkiofhmaa.Qu Go.Proofs.Ytjajgjpkiofhmaa.Fld
set_option linter.unusedVariables false

/-- the states of who is alone: it waits; it has stood -/
def aloW (id t v pat k : Int) : St := ⟨id, pat, t, v, [id], [], 0, 0, k, pat, noneA⟩
def aloF (id t v pat : Int) : St := if t = MX then ⟨id, pat, t, v, [id], [], 0, 0, 0, pat, onlyA id⟩ else ⟨id, pat, t + 1, id, [id], [], 3, id, 0, pat, onlyA id⟩
def aloS (id t v pat : Int) (k : Nat) : St := if (k : Int) < pat then aloW id t v pat k else aloF id t v pat
theorem alone_won (id : Int) : wonA [id] (onlyA id) = true := by
  unfold wonA need onlyA
  simp
theorem aloS_0 (id t v pat : Int) (h : 1 ≤ pat) : aloS id t v pat 0 = st0 id t v [id] [] pat := by
  unfold aloS
  rw [if_pos (by show ((0 : Nat) : Int) < pat; omega)]
  rfl
theorem alone_hope (id t v pat : Int) : hope (aloW id t v pat 0) 0 0 = (aloF id t v pat, []) := by
  unfold hope
  rw [if_pos (show wonA (aloW id t v pat 0).vs (onlyA (aloW id t v pat 0).id) = true from alone_won id)]
  unfold run aloF
  by_cases ht : t = MX
  · rw [if_pos (show (hoped (aloW id t v pat 0)).term = MX from ht), if_pos ht]
    rfl
  · rw [if_neg (show ¬ (hoped (aloW id t v pat 0)).term = MX from ht), if_neg ht, if_pos (show wonA (hoped (aloW id t v pat 0)).vs (onlyA (hoped (aloW id t v pat 0)).id) = true from alone_won id)]
    rfl
theorem aloS_tick (id t v pat : Int) (h : 1 ≤ pat) (k : Nat) (hk : (k : Int) < pat) : tick (aloS id t v pat k) 0 0 0 = (aloS id t v pat (k + 1), []) := by
  have e : aloS id t v pat k = aloW id t v pat k := by unfold aloS; rw [if_pos hk]
  rw [e]
  unfold tick
  rw [if_neg (show ¬ (aloW id t v pat k).role = 3 by show ¬ (0 : Int) = 3; omega)]
  by_cases h1 : (k : Int) + 1 < pat
  · rw [if_pos (show (aloW id t v pat k).wait + 1 < (aloW id t v pat k).lim ∨ _ from .inl h1)]
    unfold aloS
    rw [if_pos (by omega)]
    rfl
  · rw [if_neg]
    · have h2 : (max (0 : Int) 0).tmod pat = 0 := by simp
      have e3 : aloS id t v pat (k + 1) = aloF id t v pat := by
        unfold aloS
        rw [if_neg (by omega)]
      rw [e3]
      show hope ⟨id, pat, t, v, [id], [], 0, 0, 0, pat + (max (0 : Int) 0).tmod pat, noneA⟩ 0 0 = _
      rw [h2, Int.add_zero]
      exact alone_hope id t v pat
    · rintro (h0 | h0)
      · exact h1 h0
      · have : hasI [id] id = true := by simp [hasI]
        rw [show hasI (aloW id t v pat k).vs (aloW id t v pat k).id = hasI [id] id from rfl, this] at h0
        cases h0
theorem aloS_role (id t v pat : Int) (k : Nat) : (aloS id t v pat k).role = if (k : Int) < pat then 0 else if t = MX then 0 else 3 := by
  unfold aloS
  by_cases hk : (k : Int) < pat
  · rw [if_pos hk, if_pos hk]; rfl
  · rw [if_neg hk, if_neg hk]
    unfold aloF
    by_cases ht : t = MX
    · rw [if_pos ht, if_pos ht]
    · rw [if_neg ht, if_neg ht]
theorem aloS_end (id t v pat : Int) (k : Nat) (hk : pat ≤ (k : Int)) (ht : t ≠ MX) : (aloS id t v pat k).term = t + 1 ∧ (aloS id t v pat k).vote = id ∧ (aloS id t v pat k).lead = id := by
  unfold aloS
  rw [if_neg (by omega)]
  unfold aloF
  rw [if_neg ht]
  exact ⟨rfl, rfl, rfl⟩
theorem aloS_wait (id t v pat : Int) (h : pat ≤ 1000) (k : Nat) : (aloS id t v pat k).wait ≤ 1000 := by
  unfold aloS
  split
  · show (k : Int) ≤ 1000; omega
  · unfold aloF; split <;> (show (0 : Int) ≤ 1000; omega)
set_option maxRecDepth 100000 in
set_option maxHeartbeats 3200000 in
theorem alone_walk (t v id pat : Int) (w : World) : Calls Try.prog 7 #[.agg #[.int .i64 t, .int .i64 v], .int .i64 id, .int .i64 pat] w fun e w' => e = .returned (.bool true) ∧ Below w.heap.size w w' := by
  have hal := alloc_below w (.cells #[.int .i64 t, .int .i64 v] 23)
  have hk := Blk.new w #[.int .i64 t, .int .i64 v] 23
  have HAL := Lib.hid hal
  have HK := Lib.hid hk
  have h0 := hk.cell 0 (.int .i64 t) rfl
  have h1 := hk.cell 1 (.int .i64 v) rfl
  have HAW := Lib.hid (fun W => awake_any W)
  cases hn : newOk id t v [id] [] pat with
  | false =>
    have HN := Lib.hid (fun W => new_bad id t v pat (some ⟨W.heap.size, 0, none⟩) 1 [id] none 0 [] (W.alloc (.cells #[.int .i64 id] 3)) (rdI_one W id) (RdI.nil _ _) hn)
    unfold grpV at HN
    clear hal hk hn
    go_enter Try.func7, Try.ntmps7
    go_wp2_with fail
    refine (HAW.out _).mono ?_
    rintro e w1 ⟨rfl, hb1⟩
    have HB1 := Lib.hid (HAL.out.trans (hb1.mono HAL.out.size))
    have k1 := HK.out.below hb1
    have h0 := k1.cell 0 _ rfl
    have h1 := k1.cell 1 _ rfl
    clear hb1 k1
    go_wp2_with fail
    refine (HN.out _).mono ?_
    rintro e w2 ⟨rfl, hb2⟩
    have HB2 := Lib.hid (HB1.out.trans (((alloc_below w1 (.cells #[.int .i64 id] 3)).trans (hb2.mono (alloc_below w1 _).size)).mono HB1.out.size))
    clear hb2
    go_wp2
    go_ret
    exact ⟨rfl, HB2.out⟩
  | true =>
    have HN := Lib.hid (fun W => new_ok id t v pat (some ⟨W.heap.size, 0, none⟩) 1 [id] none 0 [] (W.alloc (.cells #[.int .i64 id] 3)) (rdI_one W id) (RdI.nil _ _) hn)
    unfold grpV at HN
    have hn' := hn
    simp only [newOk, Bool.and_eq_true, decide_eq_true_eq] at hn'
    obtain ⟨_, hh, _, hp1, hp2⟩ := hn'
    have ht := (okHard_iff _ _).1 hh
    have ht1 := ht.1.1
    have ht2 : t ≤ 1099511627776 := ht.1.2
    have HT := Lib.hid (aloS_tick id t v pat hp1)
    have HRO := Lib.hid (aloS_role id t v pat)
    have HE := Lib.hid (aloS_end id t v pat)
    have HW := Lib.hid (aloS_wait id t v pat hp2)
    have HS0 := Lib.hid (aloS_0 id t v pat hp1)
    clear hal hk hn hh ht
    go_enter Try.func7, Try.ntmps7
    go_wp2_with fail
    refine (HAW.out _).mono ?_
    rintro e w1 ⟨rfl, hb1⟩
    have HB1 := Lib.hid (HAL.out.trans (hb1.mono HAL.out.size))
    have k1 := HK.out.below hb1
    have HK1 := Lib.hid k1
    have h0 := k1.cell 0 _ rfl
    have h1 := k1.cell 1 _ rfl
    clear hb1 k1
    go_wp2_with fail
    refine (HN.out _).mono ?_
    rintro e w2 ⟨p, rfl, hm⟩
    have HM := Lib.hid (Made.past (alloc_below w1 (.cells #[.int .i64 id] 3)) hm)
    rw [← HS0.out] at HM
    clear hm h0 h1
    go_wp2_with fail
    go_loopw [10, 11, 12] (fun i l ld wr => ∃ k : Nat, (k : Int) ≤ pat ∧ i = .int .i64 ((k : Int) + 1) ∧ Made w1 wr p (aloS id t v pat k)) (fun i _ _ _ => 1001 - (intOf i).toNat)
    case atStart => exact ⟨0, by omega, rfl, HM.out⟩
    case round =>
      obtain ⟨k, hk, rfl, hM⟩ := hrel
      have HMk := Lib.hid hM
      have k2 := HK1.out.below hM.bel
      have h0 := k2.cell 0 _ rfl
      have h1 := k2.cell 1 _ rfl
      clear hM k2
      by_cases hlt : (k : Int) < pat
      · have HTK := Lib.hid (tick_any p (aloS id t v pat k) 0 0 0 wr HMk.out.im (by have := HW.out k; omega))
        rw [HT.out k hlt] at HTK
        go_wp2_with fail
        refine HTK.out.mono ?_
        rintro e w3 ⟨v3, rfl, hA⟩
        obtain ⟨A3, c3, hv3, _⟩ := row_slice hA.out
        simp only [List.length_nil] at hv3
        subst hv3
        have HM3 := Lib.hid (HMk.out.then hA.did)
        have HR := Lib.hid (role_any p (aloS id t v pat (k + 1)) w3 HM3.out.im)
        have k3 := HK1.out.below HM3.out.bel
        have h0 := k3.cell 0 _ rfl
        have h1 := k3.cell 1 _ rfl
        rw [HRO.out (k + 1)] at HR
        clear hA k3
        by_cases h1' : ((k + 1 : Nat) : Int) < pat
        · rw [if_pos h1'] at HR
          have q1 : ((k : Int) + 1 == pat) = false := by simp; omega
          go_wp2_with (go_at_call 22; refine HR.out.mono ?_; rintro e w' ⟨rfl, rfl⟩)
          go_roundw
          case rel => exact ⟨k + 1, by omega, by go_num, HM3.out⟩
          case measure => simp [intOf]; omega
        · rw [if_neg h1'] at HR
          have q1 : ((k : Int) + 1 == pat) = true := by simp; omega
          by_cases ht : t = MX
          · rw [if_pos ht] at HR
            have d1 : decide (t < 1099511627776) = false := by have hMX : MX = 1099511627776 := rfl; simp; omega
            clear ht
            go_wp2_with (go_at_call 22; refine HR.out.mono ?_; rintro e w' ⟨rfl, rfl⟩)
            go_roundw
            case rel => exact ⟨k + 1, by omega, by go_num, HM3.out⟩
            case measure => simp [intOf]; omega
          · rw [if_neg ht] at HR
            have d1 : decide (t < 1099511627776) = true := by have hMX : MX = 1099511627776 := rfl; simp; omega
            clear ht
            go_wp2_with (go_at_call 22; refine HR.out.mono ?_; rintro e w' ⟨rfl, rfl⟩)
            go_roundw
            case rel => exact ⟨k + 1, by omega, by go_num, HM3.out⟩
            case measure => simp [intOf]; omega
      · have HEk := Lib.hid (HE.out k (by omega))
        by_cases ht : t = MX
        · have q1 : (t == 1099511627776) = true := by have hMX : MX = 1099511627776 := rfl; simp; omega
          clear ht
          go_wp2_with fail
          go_quiet (fail)
          go_wp2
          go_ret
          exact ⟨rfl, HB1.out.trans ((HMk.out.bel.trans ((below_dr wr _).mono HMk.out.bel.size)).mono HB1.out.size)⟩
        · have q1 : (t == 1099511627776) = false := by have hMX : MX = 1099511627776 := rfl; simp; omega
          obtain ⟨e1, e2, e3⟩ := HEk.out ht
          have HH := Lib.hid (fun W (hW : Below wr.heap.size wr W) => hard_any p (aloS id t v pat k) W (HMk.out.im.below hW))
          have HL := Lib.hid (fun W (hW : Below wr.heap.size wr W) => leader_any p (aloS id t v pat k) W (HMk.out.im.below hW))
          rw [e1, e2] at HH
          rw [e3] at HL
          have j1 : IntKind.i64.wrap (t + 1) = t + 1 := IntWalk.i64_in _ (by omega)
          clear ht e1 e2 e3
          go_wp2_with fail
          go_region_held3 (fun w' => w'.cell? ⟨w.heap.size, 0, none⟩ = some (.int .i64 t)) (first | exact (by assumption) | go_keep) (first
            | (go_at_call 21; refine (HH.out _ (by exact below_d1 wr)).mono ?_; rintro e w4 ⟨rfl, hb4⟩; have HB4 := Lib.hid ((below_d1 wr).trans hb4); have g0 := (hb4.cell (lt_of_cell (show World.cell? _ _ = some _ from h0))).trans h0; clear hb4)
            | (go_at_call 23; refine (HL.out _ (by exact HB4.out)).mono ?_; rintro e w' ⟨rfl, rfl⟩))
          all_goals
            go_wp2
            go_ret
            exact ⟨by simp, HB1.out.trans ((HMk.out.bel.trans (HB4.out.mono HMk.out.bel.size)).mono HB1.out.size)⟩
end Go.Proofs.Ytjajgjpkiofhmaa.El
