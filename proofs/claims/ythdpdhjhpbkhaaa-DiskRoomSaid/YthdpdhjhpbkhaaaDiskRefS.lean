/-
  The document's own disk: a cell of a file is written; Sync. Conditions: it lies in memory as it was made (Rf).
-/
import Derived.Test.YthdpdhjhpbkhaaaDiskRefU
namespace Go.Proofs.Ythdpdhjhpbkhaaa.Dk
open Go.RowKit Go.Proofs.Ythdpdhjhpbkhaaa.Fld

theorem rowOf_set (e : Ent) (j : Nat) (v : Value) (hj : j < 3) : ∀ (m : List Ent) (k : Nat) (hk : k < m.length), cells3 e = (cells3 m[k]).set j v → rowOf (m.set k e) = (rowOf m).set (k * 3 + j) v
  | [], k, hk, _ => by simp at hk
  | y :: r, 0, _, h => by
    simp only [List.getElem_cons_zero] at h
    simp only [List.set_cons_zero, rowOf, List.flatMap_cons]
    rw [h, Nat.zero_mul, Nat.zero_add, List.set_append_left _ _ (by simp [cells3]; omega)]
  | y :: r, k + 1, hk, h => by
    simp only [List.getElem_cons_succ] at h
    have ih := rowOf_set e j v hj r k (by simpa using hk) h
    simp only [List.set_cons_succ, rowOf, List.flatMap_cons] at ih ⊢
    rw [ih, List.set_append_right _ _ (by simp [cells3]; omega)]
    congr 2
    simp [cells3]
    omega
theorem row_set {w : World} {q cap : Nat} {m : List Ent} (e : Ent) (k j : Nat) (v : Value) (hj : j < 3) (hk : k < m.length) (hc : cells3 e = (cells3 m[k]).set j v) (h : w.ownsRow 0 75 3 (.slice (some ⟨q, 0, none⟩) m.length cap) m.length (rowOf m)) :
    (w.setCell ⟨q, k * 3 + j, none⟩ v).ownsRow 0 75 3 (.slice (some ⟨q, 0, none⟩) m.length cap) (m.set k e).length (rowOf (m.set k e)) := by
  rcases h.2 with ⟨hv, _⟩ | ⟨q2, cap2, cur, hv, hg, hq, h1, h2, h3, h4⟩
  · cases hv
  · cases hv
    rw [List.length_set]
    refine ⟨by rw [rowOf_len, List.length_set], .inr ⟨q, cap, _, rfl, hg, heap_setCell_same w q (k * 3 + j) cur _ v hq, h1, h2, by simpa using h3, ?_⟩⟩
    rw [rowOf_set e j v hj m k hk hc, ← h4, Array.toList_setIfInBounds, List.take_set]
/-- one file is another now, in the same place -/
theorem Rf.stored {w w' : World} {r q cap : Nat} {m : List Ent} {t t' : St} (h : Rf w r (.slice (some ⟨q, 0, none⟩) m.length cap) m t) (e : Ent) (k j : Nat) (v : Value) (hj : j < 3) (hk : k < m.length) (hc : cells3 e = (cells3 m[k]).set j v) (hn : e.nm = m[k].nm)
    (hw : w'.heap = (w.setCell ⟨q, k * 3 + j, none⟩ v).heap) (hos : w'.os = w.os) (htp : w'.tape = w.tape) (hout : w'.output = w.output) (hfs : t'.fs = fput e.fil t.fs) (hg : Good t') (hr : t'.room = t.room) (hfl : t'.fail = t.fail) (hal : t'.arm = t.arm) (hof : t'.off = t.off)
    (hb : BytesAt w e ∧ ∀ i, e.v.ownBlock = some i → i < w.heap.size ∧ i ≠ r ∧ i ≠ q) : Rf w' r (.slice (some ⟨q, 0, none⟩) m.length cap) (m.set k e) t' ∧ Fr [q] w w' := by
  obtain ⟨n1, n2⟩ := h.ne
  have hqr : r ≠ q := fun hh => n1 (by rw [hh]; rfl)
  have hother : ∀ i, i ≠ q → w'.heap[i]? = w.heap[i]? := fun i hi => by rw [hw]; exact Below.heap_setCell _ _ _ _ hi
  have hsz : w'.heap.size = w.heap.size := by rw [hw]; simp [World.setCell]
  have hall : ∀ a ∈ m.set k e, BytesAt w a ∧ ∀ i, a.v.ownBlock = some i → i < w.heap.size ∧ i ≠ r ∧ i ≠ q := by
    intro a ha
    rcases List.mem_or_eq_of_mem_set ha with ha | rfl
    · have h1 := h.old ha
      refine ⟨h1.1, fun i hi => ⟨(h1.2 i hi).1, (h1.2 i hi).2, fun hh => ?_⟩⟩
      exact (n2 i (mem_blks.2 ⟨a, ha, hi⟩)).2 (by rw [hh]; rfl)
    · exact hb
  refine ⟨⟨?_, ?_, fun a ha => (hall a ha).1.of_block fun i hi => hother i ((hall a ha).2 i hi).2.2, ?_, hg, ⟨n1, ?_⟩, by rw [hfl]; exact h.fl, by rw [hal]; exact h.al, ?_⟩, ⟨hos, htp, hout, by omega, fun i _ hi => hother i (by simpa using hi)⟩⟩
  · obtain ⟨A, n, cap2, hv, hd⟩ := h.dsr
    exact ⟨A, n, cap2, hv, by rw [hr, hfl, hal, hof]; exact hd.of_block (hother r hqr)⟩
  · have := row_set e k j v hj hk hc h.row
    obtain ⟨h1, h2⟩ := this
    refine ⟨h1, ?_⟩
    rcases h2 with h2 | ⟨q2, c2, cur, hv, hg2, hq2, r2⟩
    · exact .inl h2
    · exact .inr ⟨q2, c2, cur, hv, hg2, by rw [hw]; exact hq2, r2⟩
  · rw [hfs, h.fs, ← put_at h.up e k hk hn.symm]
    exact (map_put (k1 := Ent.nm) (k2 := Prod.fst) Ent.fil (fun _ => rfl) _ _).symm
  · intro i hi
    obtain ⟨a, ha, hv⟩ := mem_blks.1 hi
    have h2 := (hall a ha).2 i hv
    exact ⟨h2.2.1, fun hh => h2.2.2 (by cases hh; rfl)⟩
  · intro i hi
    obtain ⟨a, ha, hv⟩ := mem_blks.1 hi
    rw [hsz]
    exact ((hall a ha).2 i hv).1
theorem set_foot {r q cap n : Nat} {m : List Ent} {e : Ent} {k : Nat} {N : Nat} (hb : ∀ i, e.v.ownBlock = some i → i ∈ blks m ∨ N ≤ i) : ∀ i ∈ rfoot r (.slice (some ⟨q, 0, none⟩) n cap) (m.set k e), i ∈ rfoot r (.slice (some ⟨q, 0, none⟩) n cap) m ∨ N ≤ i := by
  intro i hi
  simp only [rfoot, List.mem_cons, List.mem_append] at hi ⊢
  rcases hi with hi | hi | hi
  · exact .inl (.inl hi)
  · exact .inl (.inr (.inl hi))
  · obtain ⟨a, ha, hv⟩ := mem_blks.1 hi
    rcases List.mem_or_eq_of_mem_set ha with ha | rfl
    · exact .inl (.inr (.inr (mem_blks.2 ⟨a, ha, hv⟩)))
    · rcases hb i hv with h | h
      · exact .inl (.inr (.inr h))
      · exact .inr h
/-- what Sync leaves -/
theorem rsync_end {w : World} {r q cap : Nat} {m : List Ent} {t : St} {s : ByteArray} {e : Ent} (h : Rf w r (.slice (some ⟨q, 0, none⟩) m.length cap) m t) (hf : found m s = some e) (k : Nat) (hk : k < m.length) (hke : m[k] = e) :
    RLeft w r (.slice (some ⟨q, 0, none⟩) m.length cap) m { t with fs := fput (s.data.toList, e.zs, e.zs.length) t.fs } ((w.setCell ⟨q, k * 3 + 2, none⟩ (.int .i64 (e.zs.length : Int))).drew) := by
  obtain ⟨he1, he2⟩ := get_some hf
  have hg : fget s.data.toList t.fs = some e.fil := by rw [h.get, hf]; rfl
  have ho := h.old he1
  have hq : ∀ i, e.v.ownBlock = some i → i ≠ q := fun i hi hh => (h.ne.2 i (mem_blks.2 ⟨e, he1, hi⟩)).2 (by rw [hh]; rfl)
  have h1 := h.stored (w' := (w.setCell ⟨q, k * 3 + 2, none⟩ (.int .i64 (e.zs.length : Int))).drew) (t' := { t with fs := fput (s.data.toList, e.zs, e.zs.length) t.fs }) ⟨s.data.toList, e.v, e.zs, e.zs.length⟩ k 2 (.int .i64 (e.zs.length : Int)) (by omega) hk (by rw [hke]; simp [cells3, he2]) (by rw [hke]; exact he2.symm) rfl rfl rfl rfl rfl (h.good.sync hg) rfl rfl rfl rfl ⟨ho.1, fun i hi => ⟨(ho.2 i hi).1, (ho.2 i hi).2, hq i hi⟩⟩
  exact ⟨_, _, h1.1, h1.2.mono (by simp [Value.ownBlock]), set_foot fun i hi => .inl (mem_blks.2 ⟨e, he1, hi⟩)⟩
set_option maxRecDepth 100000 in
set_option maxHeartbeats 3200000 in
theorem rsync_any (r : Nat) (lv : Value) (m : List Ent) (t : St) (s : ByteArray) (w : World) (h : Rf w r lv m t) (hm : t.fs.length ≤ 1000000) (hs : s.size ≤ maxLen) :
    Calls Try.prog 25 #[.pointer (some ⟨r, 0, none⟩), .string s] w (RDid w r lv m (stSync s.data.toList t)) := by
  have HC := Lib.hid (change_rf r lv m t s s w h hs hs)
  have HUP := Lib.hid h.up
  have HGET := Lib.hid (h.get s)
  have hml : m.length ≤ 1000000 := by rw [h.len]; exact hm
  unfold stSync doing
  simp only [Bool.and_self] at HC
  generalize okN s.data.toList = ok at *
  have hok : (ok = false ∧ chgN ok t = (1, t)) ∨ (ok = true ∧ chgN ok t = chg t) := by cases ok; exact .inl ⟨rfl, rfl⟩; exact .inr ⟨rfl, rfl⟩
  rcases hok with ⟨rfl, he⟩ | ⟨rfl, he⟩
  · rw [he] at HC
    rw [if_neg (by simp)]
    clear he h
    go_enter Try.func25, Try.ntmps25
    go_wp2_with (go_at_call 45; refine HC.out.mono ?_; rintro e w1 ⟨rfl, hR, hF⟩; have HR := Lib.hid hR; have HF := Lib.hid hF; clear hR hF)
    go_ret
    exact ⟨rfl, (RLeft.same HR.out).after HF.out⟩
  · rw [he] at HC
    rw [if_pos rfl]
    have HSM := Lib.hid (chg_same t)
    clear he h
    by_cases h0 : (chg t).1 = 0
    · rw [if_pos h0]
      rw [h0] at HC
      have HFS := Lib.hid (show (chg t).2.fs.length ≤ 1000000 by rw [HSM.out.2]; exact hm)
      generalize (chg t).2 = t1 at *
      have HPL := Lib.hid (fun w1 (hR : Rf w1 r lv m t1) => place_any r lv m t1 s w1 hR HFS.out)
      unfold sync1
      cases hf : found m s with
      | none =>
        rw [show fget s.data.toList t1.fs = none by rw [HSM.out.2, HGET.out, hf]; rfl]
        simp only
        rw [plc_lost hf] at HPL
        clear h0
        go_enter Try.func25, Try.ntmps25
        go_wp2_with (first | (go_at_call 45; refine HC.out.mono ?_; rintro e w1 ⟨rfl, hR, hF⟩; have HR := Lib.hid hR; have HF := Lib.hid hF; clear hR hF) | (go_at_call 46; refine (HPL.out _ HR.out).mono ?_; rintro e w2 ⟨rfl, rfl⟩))
        go_ret
        exact ⟨rfl, (RLeft.same HR.out).after HF.out⟩
      | some e =>
        rw [show fget s.data.toList t1.fs = some e.fil by rw [HSM.out.2, HGET.out, hf]; rfl]
        simp only
        obtain ⟨k, hk, hpl, hke⟩ := plc_found HUP.out hf
        rw [hpl] at HPL
        have HEND := Lib.hid (fun (w1 : World) (q cap : Nat) (hR : Rf w1 r (.slice (some ⟨q, 0, none⟩) m.length cap) m t1) => rsync_end hR hf k hk hke)
        clear h0 hpl
        generalize hst : ({ t1 with fs := fput (s.data.toList, e.fil.2.1, e.fil.2.1.length) t1.fs } : St) = t' at *
        go_enter Try.func25, Try.ntmps25
        go_wp2_with (first | (go_at_call 45; refine HC.out.mono ?_; rintro e w1 ⟨rfl, hR, hF⟩; have HR := Lib.hid hR; have HF := Lib.hid hF; clear hR hF) | (go_at_call 46; refine (HPL.out _ HR.out).mono ?_; rintro e w2 ⟨rfl, rfl⟩))
        obtain ⟨q, cap, hv, hc1, hc2, k0, k1, k2, kf⟩ := HR.out.cell k hk
        obtain ⟨A, cap2, hv2, hd, _⟩ := HR.out.form
        rw [hv] at hv2
        cases hv2
        subst hv
        obtain ⟨c0, c1, c2, c3, c4⟩ := hd.cells
        have z2 := kf (k * 3 + 2)
        obtain ⟨BA, bc, hbv, _⟩ := HR.out.byt m[k] (List.getElem_mem hk)
        rw [hbv, hke] at k1
        have HL := Lib.hid (HEND.out w1 q cap HR.out)
        clear kf hd hbv HEND
        go_region
        go_wp2
        go_ret
        subst hst
        exact ⟨rfl, HL.out.after HF.out⟩
    · rw [if_neg h0]
      have j : ((chg t).1 == 0) = false := by simpa using h0
      rw [show chg t = ((chg t).1, (chg t).2) from rfl]
      generalize (chg t).2 = t1 at *
      generalize (chg t).1 = c at *
      go_enter Try.func25, Try.ntmps25
      go_wp2_with (go_at_call 45; refine HC.out.mono ?_; rintro e w1 ⟨rfl, hR, hF⟩; have HR := Lib.hid hR; have HF := Lib.hid hF; clear hR hF)
      go_ret
      exact ⟨rfl, (RLeft.same HR.out).after HF.out⟩
end Go.Proofs.Ythdpdhjhpbkhaaa.Dk
