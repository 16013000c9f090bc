/-
  The document's own disk: Unlink and Sync. Conditions: it lies in memory as it was made (Rf).
-/
import Derived.Test.YthdpdhjhpbkhaaaDiskRefM
namespace Go.Proofs.Ythdpdhjhpbkhaaa.Dk
open Go.RowKit Go.Proofs.Ythdpdhjhpbkhaaa.Fld

theorem plc_found {m : List Ent} {s : ByteArray} {e : Ent} (hu : Up Ent.nm m) (hf : found m s = some e) : ∃ k, ∃ hk : k < m.length, plc m s = (k : Int) ∧ m[k] = e := by
  obtain ⟨h1, h2⟩ := get_some hf
  obtain ⟨k, hk, he⟩ := List.getElem_of_mem h1
  refine ⟨k, hk, plc_some hk (by rw [he]; exact h2) ?_, he⟩
  intro j hj hjk hn
  have := hu.inj (List.getElem_mem hj) h1 (hn.trans h2.symm)
  have hlt := List.pairwise_iff_getElem.1 hu j k hj hk hjk
  rw [he, this] at hlt
  exact before_ne hlt rfl
theorem plc_lost {m : List Ent} {s : ByteArray} (hf : found m s = none) : plc m s = -1 := plc_none fun _ hj => get_none hf _ (List.getElem_mem hj)
theorem del_at {m : List Ent} (hu : Up Ent.nm m) (k : Nat) (hk : k < m.length) : del Ent.nm m[k].nm m = m.take k ++ m.drop (k + 1) := by
  have e : m = m.take k ++ (m[k] :: m.drop (k + 1)) := by rw [← List.drop_eq_getElem_cons hk, List.take_append_drop]
  obtain ⟨y, hy⟩ : ∃ y, m[k] = y := ⟨_, rfl⟩
  rw [hy] at e ⊢
  have hp : (m.take k ++ (y :: m.drop (k + 1))).Pairwise fun a b => bytesBefore (Ent.nm a) (Ent.nm b) = true := by rw [← e]; exact hu
  obtain ⟨_, h2, h3⟩ := List.pairwise_append.1 hp
  obtain ⟨h4, _⟩ := List.pairwise_cons.1 h2
  have h5 : del Ent.nm y.nm m = (m.take k ++ (y :: m.drop (k + 1))).filter fun e => !(Ent.nm e == y.nm) := by rw [← e]; rfl
  rw [h5, List.filter_append, List.filter_cons_of_neg (by simp)]
  congr 1
  · rw [List.filter_eq_self]
    intro a ha
    have := before_ne (h3 a ha y (by simp))
    simpa using this
  · rw [List.filter_eq_self]
    intro a ha
    have := before_ne (h4 a ha)
    simpa using fun h => this h.symm
theorem Rf.old {w : World} {r : Nat} {lv : Value} {m : List Ent} {t : St} (h : Rf w r lv m t) {e : Ent} (he : e ∈ m) : BytesAt w e ∧ ∀ i, e.v.ownBlock = some i → i < w.heap.size ∧ i ≠ r :=
  ⟨h.byt e he, fun i hi => ⟨h.bl i (mem_blks.2 ⟨e, he, hi⟩), (h.ne.2 i (mem_blks.2 ⟨e, he, hi⟩)).1⟩⟩
set_option maxRecDepth 100000 in
set_option maxHeartbeats 3200000 in
theorem runl_any (r : Nat) (lv : Value) (m : List Ent) (t : St) (s : ByteArray) (w : World) (h : Rf w r lv m t) (hm : t.fs.length ≤ 1000000) (hs : s.size ≤ maxLen) :
    Calls Try.prog 29 #[.pointer (some ⟨r, 0, none⟩), .string s] w (RDid w r lv m (stUnlink s.data.toList t)) := by
  have HC := Lib.hid (change_rf r lv m t s s w h hs hs)
  have HM := Lib.hid hm
  have HUP := Lib.hid h.up
  have HGET := Lib.hid (h.get s)
  unfold stUnlink doing
  simp only [Bool.and_self] at HC
  generalize okN s.data.toList = ok at *
  have hok : (ok = false ∧ chgN ok t = (1, t)) ∨ (ok = true ∧ chgN ok t = chg t) := by cases ok; exact .inl ⟨rfl, rfl⟩; exact .inr ⟨rfl, rfl⟩
  rcases hok with ⟨rfl, he⟩ | ⟨rfl, he⟩
  · rw [he] at HC
    rw [if_neg (by simp)]
    clear he h
    go_enter Try.func29, Try.ntmps29
    go_wp2_with (go_at_call 45; refine HC.out.mono ?_; rintro e w1 ⟨rfl, hR, hF⟩; have HR := Lib.hid hR; have HF := Lib.hid hF; clear hR hF)
    go_ret
    exact ⟨rfl, (RLeft.same HR.out).after HF.out⟩
  · rw [he] at HC
    rw [if_pos rfl]
    have HSM := Lib.hid (chg_same t)
    clear he h
    by_cases h0 : (chg t).1 = 0
    · rw [if_pos h0]
      rw [h0] at HC
      have HFS := Lib.hid (show (chg t).2.fs.length ≤ 1000000 by rw [HSM.out.2]; exact hm)
      generalize (chg t).2 = t1 at *
      unfold unl1
      cases hf : found m s with
      | none =>
        rw [show fget s.data.toList t1.fs = none by rw [HSM.out.2, HGET.out, hf]; rfl]
        simp only
        have HP := Lib.hid (plc_lost hf)
        have HPL := Lib.hid (fun w1 (hR : Rf w1 r lv m t1) => place_any r lv m t1 s w1 hR HFS.out)
        rw [HP.out] at HPL
        clear h0
        go_enter Try.func29, Try.ntmps29
        go_wp2_with (first | (go_at_call 45; refine HC.out.mono ?_; rintro e w1 ⟨rfl, hR, hF⟩; have HR := Lib.hid hR; have HF := Lib.hid hF; clear hR hF) | (go_at_call 46; refine (HPL.out _ HR.out).mono ?_; rintro e w2 ⟨rfl, rfl⟩))
        go_ret
        exact ⟨rfl, (RLeft.same HR.out).after HF.out⟩
      | some e =>
        rw [show fget s.data.toList t1.fs = some e.fil by rw [HSM.out.2, HGET.out, hf]; rfl]
        simp only
        obtain ⟨k, hk, hpl, hke⟩ := plc_found HUP.out hf
        have HPL := Lib.hid (fun w1 (hR : Rf w1 r lv m t1) => place_any r lv m t1 s w1 hR HFS.out)
        rw [hpl] at HPL
        have HOUT := Lib.hid (fun w1 (hR : Rf w1 r lv m t1) => out_rf r lv m t1 k w1 hR HFS.out hk)
        have HDEL := Lib.hid (show del Ent.nm s.data.toList m = m.take k ++ m.drop (k + 1) by rw [← (get_some hf).2, ← hke]; exact del_at HUP.out k hk)
        clear h0 hpl
        go_enter Try.func29, Try.ntmps29
        go_wp2_with (first | (go_at_call 45; refine HC.out.mono ?_; rintro e w1 ⟨rfl, hR, hF⟩; have HR := Lib.hid hR; have HF := Lib.hid hF; clear hR hF) | (go_at_call 46; refine (HPL.out _ HR.out).mono ?_; rintro e w2 ⟨rfl, rfl⟩) | (go_at_call 50; refine (HOUT.out _ HR.out).mono ?_; rintro e w3 ⟨rfl, hT⟩; have HT := Lib.hid hT; clear hT))
        go_ret
        refine ⟨rfl, RLeft.after HF.out (HR.out.turned HT.out ?_ (HR.out.good.del _) rfl rfl rfl rfl ?_ ?_)⟩
        · rw [← HDEL.out, map_del (k1 := Ent.nm) (k2 := Prod.fst) Ent.fil (fun _ => rfl), ← HR.out.fs]
          rfl
        · intro a ha
          rw [← HDEL.out] at ha
          exact HR.out.old (mem_del.1 ha).1
        · intro i hi
          rw [← HDEL.out] at hi
          exact .inl (blks_del hi)
    · rw [if_neg h0]
      have j : ((chg t).1 == 0) = false := by simpa using h0
      rw [show chg t = ((chg t).1, (chg t).2) from rfl]
      generalize (chg t).2 = t1 at *
      generalize (chg t).1 = c at *
      go_enter Try.func29, Try.ntmps29
      go_wp2_with (go_at_call 45; refine HC.out.mono ?_; rintro e w1 ⟨rfl, hR, hF⟩; have HR := Lib.hid hR; have HF := Lib.hid hF; clear hR hF)
      go_ret
      exact ⟨rfl, (RLeft.same HR.out).after HF.out⟩
end Go.Proofs.Ythdpdhjhpbkhaaa.Dk
