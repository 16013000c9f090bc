/-
  Layer 10, the laws' world: play, a kind of event a theorem. Conditions: as each theorem states.
-/
import Derived.Test.YtjajgjpkiofhmaaElV5
namespace Go.Proofs.Ytjajgjpkiofhmaa.El
open Go.RowKit Go.Proofs.Ytjajgjpkiofhmaa.Qu Go.Proofs.Ytjajgjpkiofhmaa.Fld
set_option linter.unusedVariables false

def evA (e : Ev) : Array Value := #[.int .i64 e.d, .int .i64 e.who, .int .i64 e.n, .int .i64 e.draw]
theorem kOf_is (who : Int) (m : Nat) (h : 1 ≤ m) : (who.tmod m < 0 → who.tmod m + m = (kOf who m : Int)) ∧ (¬ who.tmod m < 0 → who.tmod m = (kOf who m : Int)) ∧ -(m : Int) < who.tmod m ∧ who.tmod m < m := by
  have h0 := kOf_lt who m h
  have h1 := Int.tmod_lt_of_pos who (show (0 : Int) < m by omega)
  have h2 : -(m : Int) < who.tmod m := by
    rcases Int.le_total 0 who with h0 | h0
    · have := Int.tmod_nonneg m h0; omega
    · have h3 := Int.tmod_lt_of_pos (-who) (show (0 : Int) < m by omega)
      rw [Int.neg_tmod] at h3
      omega
  unfold kOf
  refine ⟨fun h => ?_, fun h => ?_, h2, h1⟩
  · rw [if_pos h]; omega
  · rw [if_neg h]; omega
set_option maxRecDepth 100000 in
set_option maxHeartbeats 6400000 in
theorem play_tick (w0 : World) (u : Wl) (d : Wd) (who n draw : Int) (m B : Nat) (w : World) (h : Wm w0 (ids m) w u d) (hm : d.ns.length = m) (h1 : 1 ≤ m) (hm15 : m ≤ 15) (hl : d.logs.length = d.ns.length) (hsn : d.sent.length ≤ 900000) (hld : d.leads.length ≤ 100000) (hnok : ∀ i, i < m → NOk m B i (nd d i)) (hB : B ≤ 1000000)  : Calls Try.prog 25 #[.pointer (some ⟨u.g, 0, none⟩), .agg #[.int .i64 0, .int .i64 who, .int .i64 n, .int .i64 draw]] w fun e' w' => e' = .returned (.tuple #[]) ∧ ∃ u', u'.g = u.g ∧ Wm w0 (ids m) w' u' (play d ⟨0, who, n, draw⟩) := by
  have hal := alloc_below w (.cells (evA ⟨0, who, n, draw⟩) 64)
  have hm1 := h.below hal
  have HM := Lib.hid hm1
  have hke := Blk.new w (evA ⟨0, who, n, draw⟩) 64
  have HKE := Lib.hid hke
  have HXG := Lib.hid (show w.heap.size ≠ u.g by have := Blk.lt h.blk; omega)
  have HXS := Lib.hid (fun k hk => show w.heap.size ∉ Sk u k from fun hmm => absurd (h.loSk k hk _ hmm).2 (Nat.lt_irrefl _))
  have HNK := Lib.hid hnok
  have HLL := Lib.hid hl
  obtain ⟨hk1, hk2, hk3, hk4⟩ := kOf_is who m h1
  have hkl := kOf_lt who m h1
  obtain ⟨r, hr⟩ : ∃ r, who.tmod m = r := ⟨_, rfl⟩
  obtain ⟨k, hk⟩ : ∃ k, kOf who m = k := ⟨_, rfl⟩
  rw [hr] at hk1 hk2 hk3 hk4
  rw [hk] at hk1 hk2 hkl
  have HP := Lib.hid (show play d ⟨0, who, n, draw⟩ = doN d k (tick (nd d k) draw (lg d k).1 (lg d k).2) by unfold play; rw [hm, hk]; rw [if_pos rfl])
  have HK := Lib.hid (show k < d.ns.length by omega)
  obtain ⟨_, _, _, _, _, _, _, -, -, -, hnm, -, hc0⟩ := hm1.cel k HK.out hl
  obtain ⟨c2, _⟩ := hc0 _ (Dk.Fr.refl _ _)
  have b0 := hke.cell 0 (.int .i64 0) rfl
  have b1 := hke.cell 1 (.int .i64 who) rfl
  have HNM := Lib.hid hm
  rw [hm] at c2
  unfold evA at *
  clear h hal hm1 hke hc0 hnok hl hm hnm
  go_enter Try.func25, Try.ntmps25
  go_upto_region 1 with fail
  generalize hwx : (w.alloc (.cells #[.int .i64 0, .int .i64 who, .int .i64 n, .int .i64 draw] 64)) = wq at *
  generalize hX : w.heap.size = X at *
  have HWX := Lib.hid (And.intro hwx hX)
  clear hwx hX
  go_cut [4] from 7 to 14 (fun c wx => c = .int .i64 r ∧ Below wq.heap.size wq wx)
  case first =>
    go_quiet (fail)
    go_wp2_with fail
    go_meet
    exact ⟨rfl, below_dr _ _⟩
  case rest =>
    obtain ⟨rfl, hbw⟩ := hcut
    obtain ⟨wa, rfl⟩ : ∃ wa, wa = wc := ⟨_, rfl⟩
    have HMA := Lib.hid (HM.out.below hbw)
    have HKA := Lib.hid (HKE.out.below hbw)
    clear hbw c2 b0 b1
    obtain ⟨nb, no, nc, lb, lo, lc, -, hno, hnb, -, hnm, ⟨hnn, hln⟩, hc⟩ := HMA.out.cel k HK.out HLL.out
    have hxg := HXG.out
    have HXA := Lib.hid (show X ∉ Sk u k from HXS.out k HK.out)
    have HNB := Lib.hid hnb
    have HNO := Lib.hid hno
    have HC := Lib.hid hc
    obtain ⟨c2, c3, c4, cn, cl, cm⟩ := hc wa (Dk.Fr.refl _ _)
    rw [HNM.out] at c2 c3 hnm
    clear hc hnb hno
    unfold maxLen at hnm
    refine (by assumption : ∀ (a : Act) (w : World), Code.wp Try.prog _ _ a w → _) _ _ ?_
    refine wp_seq_k (fun _ _ => ?_)
    go_cut [4] from 15 to 23 (fun c wx => c = .int .i64 (k : Int) ∧ wx = wa)
    case first =>
      by_cases hr0 : r < 0
      · have q0 : decide (r < 0) = true := decide_eq_true hr0
        have hk1 := hk1 hr0
        go_wp2_with fail
        go_meet
        first | exact ⟨rfl, rfl⟩ | exact ⟨by rw [hk1], rfl⟩
      · have q0 : decide (r < 0) = false := decide_eq_false hr0
        have hk2 : r = (k : Int) := hk2 (by omega)
        go_wp2_with fail
        go_meet
        first | exact ⟨rfl, rfl⟩ | exact ⟨by rw [hk2], rfl⟩
    case rest =>
      obtain ⟨rfl, rfl⟩ := hcut
      have b0 := HKA.out.cell 0 (.int .i64 0) rfl
      have b2 := HKA.out.cell 2 (.int .i64 n) rfl
      have b3 := HKA.out.cell 3 (.int .i64 draw) rfl
      have k0 : (0 : Int) ≤ (k : Int) := by omega
      have k1 : (k : Int) < (m : Int) := by omega
      clear hk1 hk2 hk3 hk4
      have HT := Lib.hid (fun W (hW : Im W (u.p k) (nd d k)) => tick_any (u.p k) (nd d k) draw (lg d k).1 (lg d k).2 W hW (by have := (HNK.out k hkl).wait; omega))
      have HIM := Lib.hid (HMA.out.im k HK.out)
      have HLN := Lib.hid (show (tick (nd d k) draw (lg d k).1 (lg d k).2).2.length ≤ 16 by have h1 := tick_len (nd d k) draw (lg d k).1 (lg d k).2; have h2 := (HNK.out k hkl).vs; rw [h2, ids_len] at h1; omega)
      have HSN := Lib.hid hsn
      go_upto_region 6 with fail
      refine wp_region_noPanic ?_
      refine wp_region_held_drew (S := (fun w' => w'.cell? ⟨u.g, 2, none⟩ = some (.slice (some ⟨nb, no, none⟩) m nc) ∧ w'.cell? ⟨u.g, 3, none⟩ = some (.slice (some ⟨lb, lo, none⟩) m lc) ∧ w'.cell? ⟨nb, no + k, none⟩ = some (.pointer (some ⟨(u.p k).g, 0, none⟩)) ∧ w'.cell? ⟨lb, lo + k * 2, none⟩ = some (.int .i64 (lg d k).1) ∧ w'.cell? ⟨lb, lo + k * 2 + 1, none⟩ = some (.int .i64 (lg d k).2) ∧ w'.cell? ⟨X, 3, none⟩ = some (.int .i64 draw))) (by kernel_rfl) ?_ (fun hHeld => ?_)
      · first | exact ⟨by assumption, by assumption, by assumption, by assumption, by assumption, by assumption⟩ | go_keep
      refine takeL (i := 0) (v := ?_) rfl (by kernel_rfl) (by kernel_rfl) (by kernel_rfl) (fun _ _ _ h => h) (Or.inl ⟨by rfl, ?_⟩) (by assumption) ?_
      rotate_left
      · intro w' hSw
        (try dsimp only at hSw)
        go_simp
        first | done | with_reducible rfl
      simp only [Act.put, List.setIfInBounds_toArray, List.set_cons_zero, List.set_cons_succ]
      refine takeL (i := 1) (v := ?_) rfl (by kernel_rfl) (by kernel_rfl) (by kernel_rfl) (fun _ _ _ h => h) (Or.inl ⟨by rfl, ?_⟩) (by assumption) ?_
      rotate_left
      · intro w' hSw
        (try dsimp only at hSw)
        go_simp
        first | done | with_reducible rfl
      simp only [Act.put, List.setIfInBounds_toArray, List.set_cons_zero, List.set_cons_succ]
      refine takeL (i := 2) (v := ?_) rfl (by kernel_rfl) (by kernel_rfl) (by kernel_rfl) (fun _ _ _ h => h) (Or.inl ⟨by rfl, ?_⟩) (by assumption) ?_
      rotate_left
      · intro w' hSw
        (try dsimp only at hSw)
        go_simp
        first | done | with_reducible rfl
      simp only [Act.put, List.setIfInBounds_toArray, List.set_cons_zero, List.set_cons_succ]
      refine takeL (i := 3) (v := ?_) rfl (by kernel_rfl) (by kernel_rfl) (by kernel_rfl) (fun _ _ _ h => h) (Or.inl ⟨by rfl, ?_⟩) (by assumption) ?_
      rotate_left
      · intro w' hSw
        (try dsimp only at hSw)
        go_simp
        first | done | with_reducible rfl
      simp only [Act.put, List.setIfInBounds_toArray, List.set_cons_zero, List.set_cons_succ]
      refine takeL (i := 5) (v := ?_) rfl (by kernel_rfl) (by kernel_rfl) (by kernel_rfl) (fun _ _ _ h => h) (Or.inl ⟨by rfl, ?_⟩) (by assumption) ?_
      rotate_left
      · intro w' hSw
        (try dsimp only at hSw)
        go_simp
        first | done | with_reducible rfl
      simp only [Act.put, List.setIfInBounds_toArray, List.set_cons_zero, List.set_cons_succ]
      refine takeL (i := 6) (v := ?_) rfl (by kernel_rfl) (by kernel_rfl) (by kernel_rfl) (fun _ _ _ h => h) (Or.inl ⟨by rfl, ?_⟩) (by assumption) ?_
      rotate_left
      · intro w' hSw
        (try dsimp only at hSw)
        go_simp
        first | done | with_reducible rfl
      simp only [Act.put, List.setIfInBounds_toArray, List.set_cons_zero, List.set_cons_succ]
      refine takeL (i := 7) (v := ?_) rfl (by kernel_rfl) (by kernel_rfl) (by kernel_rfl) (fun _ _ _ h => h) (Or.inl ⟨by rfl, ?_⟩) (by assumption) ?_
      rotate_left
      · intro w' hSw
        (try dsimp only at hSw)
        go_simp
        first | done | with_reducible rfl
      simp only [Act.put, List.setIfInBounds_toArray, List.set_cons_zero, List.set_cons_succ]
      refine takeL (i := 8) (v := ?_) rfl (by kernel_rfl) (by kernel_rfl) (by kernel_rfl) (fun _ _ _ h => h) (Or.inl ⟨by rfl, ?_⟩) (by assumption) ?_
      rotate_left
      · intro w' hSw
        (try dsimp only at hSw)
        go_simp
        first | done | with_reducible rfl
      simp only [Act.put, List.setIfInBounds_toArray, List.set_cons_zero, List.set_cons_succ]
      refine takeL (i := 9) (v := ?_) rfl (by kernel_rfl) (by kernel_rfl) (by kernel_rfl) (fun _ _ _ h => h) (Or.inl ⟨by rfl, ?_⟩) (by assumption) ?_
      rotate_left
      · intro w' hSw
        (try dsimp only at hSw)
        go_simp
        first | done | with_reducible rfl
      simp only [Act.put, List.setIfInBounds_toArray, List.set_cons_zero, List.set_cons_succ]
      refine takeL (i := 10) (v := ?_) rfl (by kernel_rfl) (by kernel_rfl) (by kernel_rfl) (fun _ _ _ h => h) (Or.inl ⟨by rfl, ?_⟩) (by assumption) ?_
      rotate_left
      · intro w' hSw
        (try dsimp only at hSw)
        go_simp
        first | done | with_reducible rfl
      simp only [Act.put, List.setIfInBounds_toArray, List.set_cons_zero, List.set_cons_succ]
      refine takeL (i := 11) (v := ?_) rfl (by kernel_rfl) (by kernel_rfl) (by kernel_rfl) (fun _ _ _ h => h) (Or.inl ⟨by rfl, ?_⟩) (by assumption) ?_
      rotate_left
      · intro w' hSw
        (try dsimp only at hSw)
        go_simp
        first | done | with_reducible rfl
      simp only [Act.put, List.setIfInBounds_toArray, List.set_cons_zero, List.set_cons_succ]
      refine takeL (i := 12) (v := ?_) rfl (by kernel_rfl) (by kernel_rfl) (by kernel_rfl) (fun _ _ _ h => h) (Or.inl ⟨by rfl, ?_⟩) (by assumption) ?_
      rotate_left
      · intro w' hSw
        (try dsimp only at hSw)
        go_simp
        first | done | with_reducible rfl
      simp only [Act.put, List.setIfInBounds_toArray, List.set_cons_zero, List.set_cons_succ]
      refine takeL (i := 13) (v := ?_) rfl (by kernel_rfl) (by kernel_rfl) (by kernel_rfl) (fun _ _ _ h => h) (Or.inl ⟨by rfl, ?_⟩) (by assumption) ?_
      rotate_left
      · intro w' hSw
        (try dsimp only at hSw)
        go_simp
        first | done | with_reducible rfl
      simp only [Act.put, List.setIfInBounds_toArray, List.set_cons_zero, List.set_cons_succ]
      refine takeL (i := 14) (v := ?_) rfl (by kernel_rfl) (by kernel_rfl) (by kernel_rfl) (fun _ _ _ h => h) (Or.inl ⟨by rfl, ?_⟩) (by assumption) ?_
      rotate_left
      · intro w' hSw
        (try dsimp only at hSw)
        go_simp
        first | done | with_reducible rfl
      simp only [Act.put, List.setIfInBounds_toArray, List.set_cons_zero, List.set_cons_succ]
      refine takeL (i := 15) (v := ?_) rfl (by kernel_rfl) (by kernel_rfl) (by kernel_rfl) (fun _ _ _ h => h) (Or.inl ⟨by rfl, ?_⟩) (by assumption) ?_
      rotate_left
      · intro w' hSw
        (try dsimp only at hSw)
        go_simp
        first | done | with_reducible rfl
      simp only [Act.put, List.setIfInBounds_toArray, List.set_cons_zero, List.set_cons_succ]
      refine takeL (i := 16) (v := ?_) rfl (by kernel_rfl) (by kernel_rfl) (by kernel_rfl) (fun _ _ _ h => h) (Or.inl ⟨by rfl, ?_⟩) (by assumption) ?_
      rotate_left
      · intro w' hSw
        (try dsimp only at hSw)
        go_simp
        first | done | with_reducible rfl
      simp only [Act.put, List.setIfInBounds_toArray, List.set_cons_zero, List.set_cons_succ]
      refine takeL (i := 17) (v := ?_) rfl (by kernel_rfl) (by kernel_rfl) (by kernel_rfl) (fun _ _ _ h => h) (Or.inl ⟨by rfl, ?_⟩) (by assumption) ?_
      rotate_left
      · intro w' hSw
        (try dsimp only at hSw)
        go_simp
        first | done | with_reducible rfl
      simp only [Act.put, List.setIfInBounds_toArray, List.set_cons_zero, List.set_cons_succ]
      refine takeL (i := 18) (v := ?_) rfl (by kernel_rfl) (by kernel_rfl) (by kernel_rfl) (fun _ _ _ h => h) (Or.inl ⟨by rfl, ?_⟩) (by assumption) ?_
      rotate_left
      · intro w' hSw
        (try dsimp only at hSw)
        go_simp
        first | done | with_reducible rfl
      simp only [Act.put, List.setIfInBounds_toArray, List.set_cons_zero, List.set_cons_succ]
      refine takeL (i := 19) (v := ?_) rfl (by kernel_rfl) (by kernel_rfl) (by kernel_rfl) (fun _ _ _ h => h) (Or.inl ⟨by rfl, ?_⟩) (by assumption) ?_
      rotate_left
      · intro w' hSw
        (try dsimp only at hSw)
        go_simp
        first | done | with_reducible rfl
      simp only [Act.put, List.setIfInBounds_toArray, List.set_cons_zero, List.set_cons_succ]
      refine takeL (i := 20) (v := ?_) rfl (by kernel_rfl) (by kernel_rfl) (by kernel_rfl) (fun _ _ _ h => h) (Or.inl ⟨by rfl, ?_⟩) (by assumption) ?_
      rotate_left
      · intro w' hSw
        (try dsimp only at hSw)
        go_simp
        first | done | with_reducible rfl
      simp only [Act.put, List.setIfInBounds_toArray, List.set_cons_zero, List.set_cons_succ]
      refine takeL (i := 21) (v := ?_) rfl (by kernel_rfl) (by kernel_rfl) (by kernel_rfl) (fun _ _ _ h => h) (Or.inl ⟨by rfl, ?_⟩) (by assumption) ?_
      rotate_left
      · intro w' hSw
        (try dsimp only at hSw)
        go_simp
        first | done | with_reducible rfl
      simp only [Act.put, List.setIfInBounds_toArray, List.set_cons_zero, List.set_cons_succ]
      refine takeL (i := 22) (v := ?_) rfl (by kernel_rfl) (by kernel_rfl) (by kernel_rfl) (fun _ _ _ h => h) (Or.inl ⟨by rfl, ?_⟩) (by assumption) ?_
      rotate_left
      · intro w' hSw
        (try dsimp only at hSw)
        go_simp
        first | done | with_reducible rfl
      simp only [Act.put, List.setIfInBounds_toArray, List.set_cons_zero, List.set_cons_succ]
      refine takeL (i := 23) (v := ?_) rfl (by kernel_rfl) (by kernel_rfl) (by kernel_rfl) (fun _ _ _ h => h) (Or.inl ⟨by rfl, ?_⟩) (by assumption) ?_
      rotate_left
      · intro w' hSw
        (try dsimp only at hSw)
        go_simp
        first | done | with_reducible rfl
      simp only [Act.put, List.setIfInBounds_toArray, List.set_cons_zero, List.set_cons_succ]
      refine takeL (i := 24) (v := ?_) rfl (by kernel_rfl) (by kernel_rfl) (by kernel_rfl) (fun _ _ _ h => h) (Or.inl ⟨by rfl, ?_⟩) (by assumption) ?_
      rotate_left
      · intro w' hSw
        (try dsimp only at hSw)
        go_simp
        first | done | with_reducible rfl
      simp only [Act.put, List.setIfInBounds_toArray, List.set_cons_zero, List.set_cons_succ]
      refine takeL (i := 25) (v := ?_) rfl (by kernel_rfl) (by kernel_rfl) (by kernel_rfl) (fun _ _ _ h => h) (Or.inl ⟨by rfl, ?_⟩) (by assumption) ?_
      rotate_left
      · intro w' hSw
        (try dsimp only at hSw)
        go_simp
        first | done | with_reducible rfl
      simp only [Act.put, List.setIfInBounds_toArray, List.set_cons_zero, List.set_cons_succ]
      refine takeL (i := 26) (v := ?_) rfl (by kernel_rfl) (by kernel_rfl) (by kernel_rfl) (fun _ _ _ h => h) (Or.inl ⟨by rfl, ?_⟩) (by assumption) ?_
      rotate_left
      · intro w' hSw
        (try dsimp only at hSw)
        go_simp
        first | done | with_reducible rfl
      simp only [Act.put, List.setIfInBounds_toArray, List.set_cons_zero, List.set_cons_succ]
      refine takeL (i := 27) (v := ?_) rfl (by kernel_rfl) (by kernel_rfl) (by kernel_rfl) (fun _ _ _ h => h) (Or.inl ⟨by rfl, ?_⟩) (by assumption) ?_
      rotate_left
      · intro w' hSw
        (try dsimp only at hSw)
        go_simp
        first | done | with_reducible rfl
      simp only [Act.put, List.setIfInBounds_toArray, List.set_cons_zero, List.set_cons_succ]
      refine takeL (i := 28) (v := ?_) rfl (by kernel_rfl) (by kernel_rfl) (by kernel_rfl) (fun _ _ _ h => h) (Or.inl ⟨by rfl, ?_⟩) (by assumption) ?_
      rotate_left
      · intro w' hSw
        (try dsimp only at hSw)
        go_simp
        first | done | with_reducible rfl
      simp only [Act.put, List.setIfInBounds_toArray, List.set_cons_zero, List.set_cons_succ]
      refine takeL (i := 29) (v := ?_) rfl (by kernel_rfl) (by kernel_rfl) (by kernel_rfl) (fun _ _ _ h => h) (Or.inl ⟨by rfl, ?_⟩) (by assumption) ?_
      rotate_left
      · intro w' hSw
        (try dsimp only at hSw)
        go_simp
        first | done | with_reducible rfl
      simp only [Act.put, List.setIfInBounds_toArray, List.set_cons_zero, List.set_cons_succ]
      refine wpAnyH_ready (rs := [4, 30]) (by kernel_rfl) (by simp) ?_
      refine consL rfl (fun K hK => ?_) (consL rfl (fun K hK => ?_) AllReadyH.nil)
      · go_simp
        refine hK.out _ _ ?_ (fun hHeld1 => ?_)
        · first | exact ⟨by assumption, by assumption, by assumption, by assumption, by assumption, by assumption⟩ | go_keep
        clear hK K
        try simp only [Act.put, List.setIfInBounds_toArray, List.set_cons_zero, List.set_cons_succ]
        refine wpAnyH_ready (rs := [30]) (by kernel_rfl) (by simp) ?_
        refine consL rfl (fun K hK => ?_) AllReadyH.nil
        go_simp
        go_at_call 12
        refine (HT.out _ (by exact HIM.out.below (below_d1 wc))).mono ?_
        rintro e w4 ⟨v4, rfl, hA⟩
        have HM4 := Lib.hid ((HMA.out.below (below_d1 wc)).did k HK.out hA.did)
        have HF4 := Lib.hid ((Dk.Fr.below (S := Sk u k) (below_d1 wc)).same (hA.did.fr.mono fun i hi => Sk_ft hi))
        obtain ⟨y2, y3, y4, yn, yl, ym⟩ := HC.out w4 HF4.out
        rw [HNM.out] at y2 y3
        have hkk := blk_fr HKA.out HF4.out HXA.out
        have z3 := hkk.cell 3 (.int .i64 draw) rfl
        obtain ⟨A4, n4, e4, _, _, _, hA0⟩ := row_slice hA.out
        subst e4
        have HO4 := Lib.hid (rowB_read hA.out)
        have HA0 := Lib.hid (fun e => (hA0 e).1)
        clear hA hkk hA0
        refine hK.out _ _ ?_ (fun hHeld2 => ?_)
        · first | exact ⟨by assumption, by assumption, by assumption, by assumption, by assumption, by assumption⟩ | go_keep
        clear hK K
        try simp only [Act.put, List.setIfInBounds_toArray, List.set_cons_zero, List.set_cons_succ]
        refine wpAnyH_ready (rs := [31]) (by kernel_rfl) (by simp) ?_
        refine consL rfl (fun K hK => ?_) AllReadyH.nil
        refine step_append_rowB rfl _ _ rfl w0.heap.size u.sv d.sent.length (rowB d.sent) rfl HM4.out.rs A4 _ n4 _ rfl HO4.out HA0.out (by have := HLN.out; have := HSN.out; omega) HM4.out.bel.size ?_
        intro v6 w6 hr6 hg6 ha6
        obtain ⟨A6, c6, e6, _⟩ := row_slice hr6
        subst e6
        have HR6 := Lib.hid hr6
        have HG6 := Lib.hid hg6
        have HA6 := Lib.hid ha6
        have HF6 := Lib.hid (HF4.out.grown hg6 (fun i hi => .inl (Sk_sv hi)))
        obtain ⟨x2, x3, x4, xn, xl, xm⟩ := HC.out w6 HF6.out
        rw [HNM.out] at x2 x3
        have hkk := blk_fr HKA.out HF6.out HXA.out
        have t3 := hkk.cell 3 (.int .i64 draw) rfl
        have f4 := Blk.free (blk_fr HMA.out.blk HF6.out (HMA.out.gSk k HK.out)) 4
        clear hr6 hg6 ha6 hkk
        refine hK.out _ _ ?_ (fun hHeld3 => ?_)
        · first | exact ⟨by assumption, by assumption, by assumption, by assumption, by assumption, by assumption⟩ | go_keep
        clear hK K
        try simp only [Act.put, List.setIfInBounds_toArray, List.set_cons_zero, List.set_cons_succ]
        refine takeL (i := 32) (v := ?_) rfl (by kernel_rfl) (by kernel_rfl) (by kernel_rfl) (fun _ _ _ h => h) (Or.inl ⟨by rfl, ?_⟩) (by assumption) ?_
        rotate_left
        · intro w' hSw
          (try dsimp only at hSw)
          go_simp
          first | done | with_reducible rfl
        simp only [Act.put, List.setIfInBounds_toArray, List.set_cons_zero, List.set_cons_succ]
        refine takeL (i := 33) (v := ?_) rfl (by kernel_rfl) (by kernel_rfl) (by kernel_rfl) (fun _ _ _ h => h) (Or.inl ⟨by rfl, ?_⟩) (by assumption) ?_
        rotate_left
        · intro w' hSw
          (try dsimp only at hSw)
          go_simp
          first | done | with_reducible rfl
        simp only [Act.put, List.setIfInBounds_toArray, List.set_cons_zero, List.set_cons_succ]
        refine wpAnyH_ready (rs := [34]) (by kernel_rfl) (by simp) ?_
        refine consL rfl (fun K hK => ?_) AllReadyH.nil
        go_simp
        refine hK.out _ _ ?_ (fun hHeld4 => ?_)
        · exact ⟨keep_set (by assumption) (by simp), keep_set (by assumption) (by simp), keep_set (by assumption) (fun e => hnn (congrArg Addr.block e).symm), keep_set (by assumption) (fun e => hln (congrArg Addr.block e).symm), keep_set (by assumption) (fun e => hln (congrArg Addr.block e).symm), keep_set (by assumption) (fun e => hxg (congrArg Addr.block e).symm)⟩
        clear hK K
        refine wpAnyH_done (by kernel_rfl) ?_ _
        refine NoPanic.normal ?_
        go_wp2_with fail
        first | go_end0 | ((try simp only [Exit.inBlock, Exit.then]); refine bodyPost_ret (results_none rfl _ _ _) rfl ?_)
        exact ⟨rfl, _, (rfl : ({ u with sv := (Value.slice A6 _ c6) } : Wl).g = u.g), by rw [HP.out]; exact Wm.send HM4.out rfl HR6.out HG6.out HA6.out⟩
      · go_simp
        go_at_call 12
        refine (HT.out _ (by exact HIM.out.below (below_d1 wc))).mono ?_
        rintro e w4 ⟨v4, rfl, hA⟩
        have HM4 := Lib.hid ((HMA.out.below (below_d1 wc)).did k HK.out hA.did)
        have HF4 := Lib.hid ((Dk.Fr.below (S := Sk u k) (below_d1 wc)).same (hA.did.fr.mono fun i hi => Sk_ft hi))
        obtain ⟨y2, y3, y4, yn, yl, ym⟩ := HC.out w4 HF4.out
        rw [HNM.out] at y2 y3
        have hkk := blk_fr HKA.out HF4.out HXA.out
        have z3 := hkk.cell 3 (.int .i64 draw) rfl
        obtain ⟨A4, n4, e4, _, _, _, hA0⟩ := row_slice hA.out
        subst e4
        have HO4 := Lib.hid (rowB_read hA.out)
        have HA0 := Lib.hid (fun e => (hA0 e).1)
        clear hA hkk hA0
        refine hK.out _ _ ?_ (fun hHeld1 => ?_)
        · first | exact ⟨by assumption, by assumption, by assumption, by assumption, by assumption, by assumption⟩ | go_keep
        clear hK K
        try simp only [Act.put, List.setIfInBounds_toArray, List.set_cons_zero, List.set_cons_succ]
        refine wpAnyH_ready (rs := [4]) (by kernel_rfl) (by simp) ?_
        refine consL rfl (fun K hK => ?_) AllReadyH.nil
        go_simp
        refine hK.out _ _ ?_ (fun hHeld2 => ?_)
        · first | exact ⟨by assumption, by assumption, by assumption, by assumption, by assumption, by assumption⟩ | go_keep
        clear hK K
        try simp only [Act.put, List.setIfInBounds_toArray, List.set_cons_zero, List.set_cons_succ]
        refine wpAnyH_ready (rs := [31]) (by kernel_rfl) (by simp) ?_
        refine consL rfl (fun K hK => ?_) AllReadyH.nil
        refine step_append_rowB rfl _ _ rfl w0.heap.size u.sv d.sent.length (rowB d.sent) rfl HM4.out.rs A4 _ n4 _ rfl HO4.out HA0.out (by have := HLN.out; have := HSN.out; omega) HM4.out.bel.size ?_
        intro v6 w6 hr6 hg6 ha6
        obtain ⟨A6, c6, e6, _⟩ := row_slice hr6
        subst e6
        have HR6 := Lib.hid hr6
        have HG6 := Lib.hid hg6
        have HA6 := Lib.hid ha6
        have HF6 := Lib.hid (HF4.out.grown hg6 (fun i hi => .inl (Sk_sv hi)))
        obtain ⟨x2, x3, x4, xn, xl, xm⟩ := HC.out w6 HF6.out
        rw [HNM.out] at x2 x3
        have hkk := blk_fr HKA.out HF6.out HXA.out
        have t3 := hkk.cell 3 (.int .i64 draw) rfl
        have f4 := Blk.free (blk_fr HMA.out.blk HF6.out (HMA.out.gSk k HK.out)) 4
        clear hr6 hg6 ha6 hkk
        refine hK.out _ _ ?_ (fun hHeld3 => ?_)
        · first | exact ⟨by assumption, by assumption, by assumption, by assumption, by assumption, by assumption⟩ | go_keep
        clear hK K
        try simp only [Act.put, List.setIfInBounds_toArray, List.set_cons_zero, List.set_cons_succ]
        refine takeL (i := 32) (v := ?_) rfl (by kernel_rfl) (by kernel_rfl) (by kernel_rfl) (fun _ _ _ h => h) (Or.inl ⟨by rfl, ?_⟩) (by assumption) ?_
        rotate_left
        · intro w' hSw
          (try dsimp only at hSw)
          go_simp
          first | done | with_reducible rfl
        simp only [Act.put, List.setIfInBounds_toArray, List.set_cons_zero, List.set_cons_succ]
        refine takeL (i := 33) (v := ?_) rfl (by kernel_rfl) (by kernel_rfl) (by kernel_rfl) (fun _ _ _ h => h) (Or.inl ⟨by rfl, ?_⟩) (by assumption) ?_
        rotate_left
        · intro w' hSw
          (try dsimp only at hSw)
          go_simp
          first | done | with_reducible rfl
        simp only [Act.put, List.setIfInBounds_toArray, List.set_cons_zero, List.set_cons_succ]
        refine wpAnyH_ready (rs := [34]) (by kernel_rfl) (by simp) ?_
        refine consL rfl (fun K hK => ?_) AllReadyH.nil
        go_simp
        refine hK.out _ _ ?_ (fun hHeld4 => ?_)
        · exact ⟨keep_set (by assumption) (by simp), keep_set (by assumption) (by simp), keep_set (by assumption) (fun e => hnn (congrArg Addr.block e).symm), keep_set (by assumption) (fun e => hln (congrArg Addr.block e).symm), keep_set (by assumption) (fun e => hln (congrArg Addr.block e).symm), keep_set (by assumption) (fun e => hxg (congrArg Addr.block e).symm)⟩
        clear hK K
        refine wpAnyH_done (by kernel_rfl) ?_ _
        refine NoPanic.normal ?_
        go_wp2_with fail
        first | go_end0 | ((try simp only [Exit.inBlock, Exit.then]); refine bodyPost_ret (results_none rfl _ _ _) rfl ?_)
        exact ⟨rfl, _, (rfl : ({ u with sv := (Value.slice A6 _ c6) } : Wl).g = u.g), by rw [HP.out]; exact Wm.send HM4.out rfl HR6.out HG6.out HA6.out⟩
end Go.Proofs.Ytjajgjpkiofhmaa.El
