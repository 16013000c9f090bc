/-
  Layer 10, the end of ElectWins' mathematics: three ticks of one node of a fresh group, then all ballots; it leads just if most have logs that are not newer. No condition.
-/
import Derived.Test.YtjajgjpkiofhmaaElWiM
namespace Go.Proofs.Ytjajgjpkiofhmaa.El
open Go.Proofs.Ytjajgjpkiofhmaa.Qu
set_option linter.unusedVariables false

theorem iter_stop (w : Wd) (n : Nat) (h : (iter w n).sent.length ≤ n) : ∀ j, iter w (n + j) = iter w n
  | 0 => rfl
  | j + 1 => by
    have ih := iter_stop w n h j
    show (if n + j < (iter w (n + j)).sent.length then _ else _) = _
    rw [ih, if_neg (by omega)]
    exact ih
theorem kOf_nat (k m : Nat) (h : k < m) : kOf (k : Int) m = k := by
  unfold kOf
  rw [Int.tmod_eq_of_lt (by omega) (by omega), if_neg (by omega)]
  exact Int.toNat_natCast k
abbrev evK (k : Nat) : Ev := ⟨0, k, 0, 0⟩
theorem play0 (w : Wd) (k : Nat) (h : k < w.ns.length) : play w (evK k) = doN w k (tick (nd w k) 0 (lg w k).1 (lg w k).2) := by
  unfold play
  rw [if_pos rfl, kOf_nat k _ h]
theorem doN_nd (w : Wd) (k i : Nat) (r : St × List Bal) (h : k < w.ns.length) : nd (doN w k r) i = if i = k then r.1 else nd w i := nd_set w.ns w.logs (w.sent ++ r.2) w.leads k r.1 i h
def play3 (w : Wd) (k : Nat) : Wd := play (play (play w (evK k)) (evK k)) (evK k)
/-- behind a waits -/
def waits (m k : Nat) (a : Int) : St := ⟨(k : Int) + 1, 3, 0, 0, ids m, [], 0, 0, a, 3, noneA⟩
theorem tick_w (m k : Nat) (a last lt : Int) (h : a < 2) : tick (waits m k a) 0 last lt = (waits m k (a + 1), []) := by
  unfold tick
  rw [if_neg (by show ¬ (0 : Int) = 3; omega), if_pos (.inl (by show a + 1 < 3; omega))]
  rfl
theorem only_won (m k : Nat) (hk : k < m) : wonA (ids m) (onlyA ((k : Int) + 1)) = decide (m = 1) := by
  unfold wonA
  rw [(only_count m k hk).1]
  unfold need
  rw [ids_len]
  by_cases h : m = 1
  · rw [h]; rfl
  · rw [decide_eq_false h, decide_eq_false (by omega)]
theorem tick_h (m k : Nat) (hk : k < m) (last lt : Int) : tick (waits m k 2) 0 last lt = if m = 1 then (leadS (stood (hop m k)), []) else (hop m k, askAll (hop m k) 1 1 last lt) := by
  unfold tick
  have hin : hasI (waits m k 2).vs (waits m k 2).id = true := by
    unfold hasI
    exact List.contains_iff_mem.2 ((mem_ids m _).2 (by show 1 ≤ (k : Int) + 1 ∧ (k : Int) + 1 ≤ m; omega))
  rw [if_neg (by show ¬ (0 : Int) = 3; omega), if_neg (by rintro (h | h); (exact absurd h (by show ¬ (2 : Int) + 1 < 3; omega)); (rw [hin] at h; cases h))]
  unfold hope
  show (if wonA (ids m) (onlyA ((k : Int) + 1)) = true then run (hop m k) last lt else (hop m k, askAll (hop m k) 1 1 last lt)) = _
  rw [only_won m k hk]
  by_cases h : m = 1
  · rw [if_pos (by simpa using h), if_pos h]
    unfold run
    rw [if_neg (by show ¬ (0 : Int) = MX; decide)]
    show (if wonA (ids m) (onlyA ((k : Int) + 1)) = true then _ else _) = _
    rw [only_won m k hk, if_pos (by simpa using h)]
  · rw [if_neg (by simpa using h), if_neg h]
abbrev lgs (m : Nat) (logs : List (Int × Int)) : List (Int × Int) := (List.range m).map (logAt logs)
theorem play3_is {m k : Nat} (hk : k < m) (logs : List (Int × Int)) :
    (play3 (w0 m logs) k).ns.length = m ∧ (play3 (w0 m logs) k).logs = lgs m logs ∧ (∀ i, i < m → i ≠ k → nd (play3 (w0 m logs) k) i = st0 ((i : Int) + 1) 0 0 (ids m) [] 3) ∧ nd (play3 (w0 m logs) k) k = (if m = 1 then leadS (stood (hop m k)) else hop m k) ∧
    (play3 (w0 m logs) k).sent = (if m = 1 then [] else (oth m k).map (preOf k (lgs m logs))) := by
  have hl : (w0 m logs).ns.length = m := by simp [w0]
  have n0 : nd (w0 m logs) k = waits m k 0 := w0_nd m logs k hk
  have e1 : play (w0 m logs) (evK k) = doN (w0 m logs) k (waits m k 1, []) := by
    rw [play0 _ _ (by rw [hl]; exact hk), n0, tick_w m k 0 _ _ (by omega)]; rfl
  have l1 : (play (w0 m logs) (evK k)).ns.length = m := by rw [e1]; simp [doN, hl]
  have n1 : nd (play (w0 m logs) (evK k)) k = waits m k 1 := by rw [e1, doN_nd _ _ _ _ (by rw [hl]; exact hk), if_pos rfl]
  have e2 : play (play (w0 m logs) (evK k)) (evK k) = doN (play (w0 m logs) (evK k)) k (waits m k 2, []) := by
    rw [play0 _ _ (by rw [l1]; exact hk), n1, tick_w m k 1 _ _ (by omega)]; rfl
  have l2 : (play (play (w0 m logs) (evK k)) (evK k)).ns.length = m := by rw [e2]; simp [doN, l1]
  have n2 : nd (play (play (w0 m logs) (evK k)) (evK k)) k = waits m k 2 := by rw [e2, doN_nd _ _ _ _ (by rw [l1]; exact hk), if_pos rfl]
  have hlg : lg (play (play (w0 m logs) (evK k)) (evK k)) k = (lgs m logs).getD k (0, 0) := by
    rw [e2, e1]; rfl
  have e3 : play3 (w0 m logs) k = doN (play (play (w0 m logs) (evK k)) (evK k)) k (if m = 1 then (leadS (stood (hop m k)), []) else (hop m k, askAll (hop m k) 1 1 ((lgs m logs).getD k (0, 0)).1 ((lgs m logs).getD k (0, 0)).2)) := by
    show play _ _ = _
    rw [play0 _ _ (by rw [l2]; exact hk), n2, tick_h m k hk, hlg]
  refine ⟨by rw [e3]; simp [doN, l2], by rw [e3, e2, e1]; rfl, fun i hi hik => ?_, ?_, ?_⟩
  · rw [e3, doN_nd _ _ _ _ (by rw [l2]; exact hk), if_neg hik, e2, doN_nd _ _ _ _ (by rw [l1]; exact hk), if_neg hik, e1, doN_nd _ _ _ _ (by rw [hl]; exact hk), if_neg hik, w0_nd m logs i hi]
  · rw [e3, doN_nd _ _ _ _ (by rw [l2]; exact hk), if_pos rfl]
    split <;> rfl
  · have hs2 : (play (play (w0 m logs) (evK k)) (evK k)).sent = [] := by rw [e2, e1]; rfl
    rw [e3]
    show (play (play (w0 m logs) (evK k)) (evK k)).sent ++ _ = _
    rw [hs2, List.nil_append]
    split <;> rfl
/-- what the law asks -/
def votesTo (m : Nat) (logs : List (Int × Int)) (k i : Nat) : Nat := (ids i).countP (Yv (lgs m logs) k)
theorem votes_succ (m : Nat) (logs : List (Int × Int)) (k i : Nat) : votesTo m logs k (i + 1) = votesTo m logs k i + (if Yv (lgs m logs) k ((i : Int) + 1) then 1 else 0) := by
  unfold votesTo
  rw [ids_succ, List.countP_append, List.countP_singleton]
theorem Yv_own (L : List (Int × Int)) (k : Nat) : Yv L k ((k : Int) + 1) = true := by
  unfold Yv newer
  rw [show ((k : Int) + 1 - 1).toNat = k by omega]
  simp
theorem wins_right {m k : Nat} (hk : k < m) (hm : m ≤ 15) (logs : List (Int × Int)) : (nd (iter (play3 (w0 m logs) k) 1000) k).role = 3 ↔ m / 2 < votesTo m logs k m := by
  obtain ⟨hnl, hlg, hoth, hnk, hsent⟩ := play3_is hk logs
  have hv : votesTo m logs k m = (oth m k).countP (Yv (lgs m logs) k) + 1 := oth_count m k hk _ (Yv_own _ _)
  have hol := oth_len m k hk
  by_cases h1 : m = 1
  · subst h1
    rw [if_pos rfl] at hnk hsent
    have h0 := iter_stop (play3 (w0 1 logs) k) 0 (by show (play3 (w0 1 logs) k).sent.length ≤ 0; rw [hsent]; exact Nat.le_refl _) 1000
    rw [Nat.zero_add] at h0
    rw [h0]
    show (nd (play3 (w0 1 logs) k) k).role = 3 ↔ _
    rw [hnk, hv]
    exact ⟨fun _ => by omega, fun _ => rfl⟩
  · rw [if_neg h1] at hnk hsent
    have h2 : 2 ≤ m := by omega
    have hS : Stg m k (lgs m logs) (play3 (w0 m logs) k) (hop m k) ((oth m k).map (preOf k (lgs m logs))) := ⟨hnl, hlg, hnk, hsent⟩
    have hF : Fsh m (play3 (w0 m logs) k) (oth m k) := by
      intro v hv
      have := (mem_oth m k v).1 hv
      rw [hoth _ (by omega) (by omega)]
      show st0 (((v - 1).toNat : Int) + 1) 0 0 (ids m) [] 3 = st0 v 0 0 (ids m) [] 3
      rw [show ((v - 1).toNat : Int) + 1 = v by omega]
    obtain ⟨hA, hFA⟩ := phaseA hk hm (lgs m logs) _ hS hF (oth m k).length (Nat.le_refl _)
    rw [List.take_length] at hA
    generalize hn : (oth m k).length = n at *
    generalize play3 (w0 m logs) k = w3 at *
    have hnd : need (ids m) = m / 2 + 1 := by unfold need; rw [ids_len]
    by_cases hy : need (ids m) ≤ 1 + (oth m k).countP (Yv (lgs m logs) k)
    · obtain ⟨hB, hFB⟩ := phaseB hk hm (lgs m logs) w3 h2 _ (by simp) hy n hA hn.symm hFA (oth m k).length (Nat.le_refl _)
      rw [List.take_length, if_neg (by omega), hn] at hB
      rw [hn] at hFB
      obtain ⟨hC, _⟩ := phaseC hk hm (lgs m logs) w3 ((oth m k).map (preOf k (lgs m logs)) ++ (oth m k).map (preR k (Yv (lgs m logs) k))) (n + n) (by simp [hn]) hB hFB (oth m k).length (Nat.le_refl _)
      rw [List.take_length, hn] at hC
      obtain ⟨s, hD, _, _, hs⟩ := phaseD hk hm (lgs m logs) w3 ((oth m k).map (preOf k (lgs m logs)) ++ (oth m k).map (preR k (Yv (lgs m logs) k)) ++ (oth m k).map (askOf k (lgs m logs))) hy h2 (n + n + n) (by simp [hn]; omega) hC (oth m k).length (Nat.le_refl _)
      rw [List.take_length, if_neg (by omega)] at hs
      rw [hn] at hD
      have hst := iter_stop w3 (n + n + n + n) (by rw [hD.sent]; simp [hn]; omega) (1000 - (n + n + n + n))
      rw [show n + n + n + n + (1000 - (n + n + n + n)) = 1000 by omega] at hst
      rw [hst, hD.nk, hv]
      exact ⟨fun _ => by omega, fun _ => hs⟩
    · obtain ⟨am, r, hr, hL⟩ := phaseL hk hm (lgs m logs) w3 h2 _ (by simp) (by omega) n hA hn.symm (oth m k).length (Nat.le_refl _)
      rw [hn] at hL
      have hst := iter_stop w3 (n + n) (by rw [hL.sent]; simp [hn]) (1000 - (n + n))
      rw [show n + n + (1000 - (n + n)) = 1000 by omega] at hst
      rw [hst, hL.nk, hv]
      constructor
      · intro h3
        have h3' : r = 3 := h3
        rcases hr with rfl | ⟨rfl, _⟩ <;> omega
      · intro h; omega
end Go.Proofs.Ytjajgjpkiofhmaa.El
