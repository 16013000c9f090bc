/-
  The document's own disk: what its methods leave (RLeft); Unlink, Fail, Arm. Conditions: it lies in memory as it was made (Rf).
-/
import Derived.Test.YthdpdhjhpbkhaaaDiskRefN
import Derived.Test.YthdpdhjhpbkhaaaDiskRefC
namespace Go.Proofs.Ythdpdhjhpbkhaaa.Dk
open Go.RowKit Go.Proofs.Ythdpdhjhpbkhaaa.Fld

def RLeft (w : World) (r : Nat) (lv : Value) (m : List Ent) (t : St) (w' : World) : Prop := ∃ lv' m', Rf w' r lv' m' t ∧ Fr (r :: lv.ownBlock.toList) w w' ∧ ∀ i ∈ rfoot r lv' m', i ∈ rfoot r lv m ∨ w.heap.size ≤ i
def RDid (w : World) (r : Nat) (lv : Value) (m : List Ent) (q : Int × St) (e : Ending) (w' : World) : Prop := e = .returned (.int .i64 q.1) ∧ RLeft w r lv m q.2 w'
theorem RLeft.same {w : World} {r : Nat} {lv : Value} {m : List Ent} {t : St} (h : Rf w r lv m t) : RLeft w r lv m t w := ⟨lv, m, h, Fr.refl _ _, fun _ hi => .inl hi⟩
theorem RLeft.after {w w1 w' : World} {r : Nat} {lv : Value} {m : List Ent} {t : St} (hf : Fr [r] w w1) (h : RLeft w1 r lv m t w') : RLeft w r lv m t w' := by
  obtain ⟨lv', m', h1, h2, h3⟩ := h
  refine ⟨lv', m', h1, (hf.mono (by simp)).same h2, fun i hi => ?_⟩
  rcases h3 i hi with h | h
  · exact .inl h
  · exact .inr (Nat.le_trans hf.size h)
theorem Rf.flat {w : World} {r : Nat} {lv : Value} {m : List Ent} {t : St} (h : Rf w r lv m t) : Flat m := by
  intro e he
  obtain ⟨A, cap, hv, _⟩ := h.byt e he
  exact ⟨A, _, cap, hv⟩
/-- schedules may have changed -/
theorem Rf.scheds {w w' : World} {r : Nat} {lv : Value} {m : List Ent} {t t' : St} (h : Rf w r lv m t) (hd : DsrT w' r lv t') (hf : Fr [r] w w') (hfs : t'.fs = t.fs) (hr : t'.room = t.room) (hfl : ∀ k, t'.fail = some k → k ≤ 9223372036854775807) (hal : ∀ k, t'.arm = some k → k ≤ 9223372036854775807) : Rf w' r lv m t' := by
  obtain ⟨n1, n2⟩ := h.ne
  refine ⟨hd, row_of_block h.row (fun i hi => hf.block i (h.lt.2 i hi) (by simp; rintro rfl; exact n1 hi)), fun e he => ?_, by rw [hfs]; exact h.fs, ?_, h.ne, hfl, hal, fun i hi => Nat.lt_of_lt_of_le (h.bl i hi) hf.size⟩
  · obtain ⟨A, cap, hv, hs⟩ := h.byt e he
    refine ⟨A, cap, hv, ?_, hs.2⟩
    obtain ⟨h1, h2, h3, h4⟩ := hs.1
    refine ⟨h1, h2, h3, fun hn => ?_⟩
    obtain ⟨b, off, rfl, hc⟩ := h4 hn
    have hb : b ∈ blks m := mem_blks.2 ⟨e, he, by rw [hv]; rfl⟩
    exact ⟨b, off, rfl, fun i hi => hf.cell (hc i hi) (by simp; exact (n2 b hb).1)⟩
  · exact ⟨by rw [hr]; exact h.good.1, by rw [hr]; exact h.good.2, by rw [hr, hfs]; exact h.good.3, by rw [hfs]; exact h.good.4, by rw [hfs]; exact h.good.5, by rw [hfs]; exact h.good.6, by rw [hfs]; exact h.good.7⟩
theorem chg_fl {t : St} (h : ∀ k, t.fail = some k → k ≤ 9223372036854775807) : ∀ k, (chg t).2.fail = some k → k ≤ 9223372036854775807 := by
  unfold chg
  intro k
  split
  · exact h k
  · split
    · exact h k
    · split
      · intro h; cases h
      · intro hk
        simp only [Option.map_eq_some_iff] at hk
        obtain ⟨j, hj, rfl⟩ := hk
        have := h j hj
        omega
theorem chg_al {t : St} (h : ∀ k, t.arm = some k → k ≤ 9223372036854775807) : ∀ k, (chg t).2.arm = some k → k ≤ 9223372036854775807 := by
  unfold chg
  intro k
  split
  · exact h k
  · split
    · intro h; cases h
    · split <;>
      · intro hk
        simp only [Option.map_eq_some_iff] at hk
        obtain ⟨j, hj, rfl⟩ := hk
        have := h j hj
        omega
/-- change, as a whole -/
theorem change_rf (r : Nat) (lv : Value) (m : List Ent) (t : St) (s u : ByteArray) (w : World) (h : Rf w r lv m t) (hs : s.size ≤ maxLen) (hu : u.size ≤ maxLen) :
    Calls Try.prog 45 #[.pointer (some ⟨r, 0, none⟩), .string s, .string u] w fun e w' => e = .returned (.int .i64 (chgN (okN s.data.toList && okN u.data.toList) t).1) ∧ Rf w' r lv m (chgN (okN s.data.toList && okN u.data.toList) t).2 ∧ Fr [r] w w' := by
  refine (change_any r lv t s u w h.dsr h.fl h.al hs hu).mono ?_
  rintro e w' ⟨he, hd, hf⟩
  refine ⟨he, ?_, hf⟩
  unfold chgN at hd ⊢
  generalize (okN s.data.toList && okN u.data.toList) = ok at hd ⊢
  cases ok with
  | false => exact h.scheds hd hf rfl rfl h.fl h.al
  | true => exact h.scheds hd hf (chg_same t).2 (chg_same t).1 (chg_fl h.fl) (chg_al h.al)
/-- files, and the slice that holds them, are others now -/
theorem Rf.turned {w w' : World} {r : Nat} {lv : Value} {m m' : List Ent} {t t' : St} (h : Rf w r lv m t) (hT : Turned w r (t.room : Int) (sched t.fail) (sched t.arm) t.off m' w') (hfs : t'.fs = m'.map Ent.fil) (hg : Good t') (hr : t'.room = t.room) (hfl : t'.fail = t.fail) (hal : t'.arm = t.arm) (hof : t'.off = t.off)
    (hb : ∀ e ∈ m', BytesAt w e ∧ ∀ i, e.v.ownBlock = some i → i < w.heap.size ∧ i ≠ r) (hsub : ∀ i ∈ blks m', i ∈ blks m ∨ w.heap.size ≤ i) : RLeft w r lv m t' w' := by
  obtain ⟨A, n, cap, hD, hrow, hbl, hf⟩ := hT
  refine ⟨.slice A n cap, m', ⟨⟨A, n, cap, rfl, by rw [hr, hfl, hal, hof]; exact hD⟩, hrow, fun e he => (hb e he).1.of_block fun i hi => hf.block i ((hb e he).2 i hi).1 (by simpa using ((hb e he).2 i hi).2), hfs, hg, ⟨fun hh => by have := (hbl r hh).1; have := h.lt.1; omega, ?_⟩, by rw [hfl]; exact h.fl, by rw [hal]; exact h.al, fun i hi => by obtain ⟨e, he, hv⟩ := mem_blks.1 hi; exact Nat.lt_of_lt_of_le ((hb e he).2 i hv).1 hf.size⟩, hf.mono (by simp), ?_⟩
  · intro i hi
    obtain ⟨e, he, hv⟩ := mem_blks.1 hi
    have h2 := (hb e he).2 i hv
    exact ⟨h2.2, fun hh => by have := (hbl i hh).1; omega⟩
  · intro i hi
    simp only [rfoot, List.mem_cons, List.mem_append, Option.mem_toList] at hi ⊢
    rcases hi with hi | hi | hi
    · exact .inl (.inl hi)
    · exact .inr (hbl i hi).1
    · rcases hsub i hi with h1 | h1
      · exact .inl (.inr (.inr h1))
      · exact .inr h1
theorem rfail_any (r : Nat) (lv : Value) (m : List Ent) (t : St) (n : Int) (w : World) (h : Rf w r lv m t) (hn : n ≤ 9223372036854775807) :
    Calls Try.prog 31 #[.pointer (some ⟨r, 0, none⟩), .int .i64 n] w (RDid w r lv m (stFail n t)) := by
  have HI := Lib.hid h
  obtain ⟨A, n2, cap, hlv, hd⟩ := h.dsr
  have HD := Lib.hid hd
  have HLV := Lib.hid hlv
  obtain ⟨c0, c1, c2, c3, c4⟩ := hd.cells
  have f2 := hd.free 2
  clear h hd hlv
  by_cases hn0 : n < 0
  · have e1 : stFail n t = (1, t) := by unfold stFail; rw [if_pos hn0]
    rw [e1]
    clear e1
    go_enter Try.func31, Try.ntmps31
    go_wp2
    go_ret
    exact ⟨rfl, RLeft.same HI.out⟩
  · have e1 : stFail n t = (0, { t with fail := some n.toNat }) := by unfold stFail; rw [if_neg hn0]
    rw [e1]
    have HE := Lib.hid (show ((n.toNat : Nat) : Int) = n by omega)
    clear e1
    go_enter Try.func31, Try.ntmps31
    go_wp2
    go_ret
    have hf : Fr [r] w (w.setCell ⟨r, 2, none⟩ (.int .i64 n)) := (Fr.refl _ _).setCell _ (.inl (by simp)) _
    refine ⟨rfl, lv, m, HI.out.scheds ⟨A, n2, cap, HLV.out, ?_⟩ hf rfl rfl (fun k hk => by cases hk; omega) HI.out.al, hf.mono (by simp), fun _ hi => .inl hi⟩
    have := HD.out.set2 n
    simp only [sched, HE.out]
    exact this
theorem rarm_any (r : Nat) (lv : Value) (m : List Ent) (t : St) (n : Int) (w : World) (h : Rf w r lv m t) (hn : n ≤ 9223372036854775807) :
    Calls Try.prog 32 #[.pointer (some ⟨r, 0, none⟩), .int .i64 n] w (RDid w r lv m (stArm n t)) := by
  have HI := Lib.hid h
  obtain ⟨A, n2, cap, hlv, hd⟩ := h.dsr
  have HD := Lib.hid hd
  have HLV := Lib.hid hlv
  obtain ⟨c0, c1, c2, c3, c4⟩ := hd.cells
  have f3 := hd.free 3
  clear h hd hlv
  by_cases hn0 : n < 0
  · have e1 : stArm n t = (1, t) := by unfold stArm; rw [if_pos hn0]
    rw [e1]
    clear e1
    go_enter Try.func32, Try.ntmps32
    go_wp2
    go_ret
    exact ⟨rfl, RLeft.same HI.out⟩
  · have e1 : stArm n t = (0, { t with arm := some n.toNat }) := by unfold stArm; rw [if_neg hn0]
    rw [e1]
    have HE := Lib.hid (show ((n.toNat : Nat) : Int) = n by omega)
    clear e1
    go_enter Try.func32, Try.ntmps32
    go_wp2
    go_ret
    have hf : Fr [r] w (w.setCell ⟨r, 3, none⟩ (.int .i64 n)) := (Fr.refl _ _).setCell _ (.inl (by simp)) _
    refine ⟨rfl, lv, m, HI.out.scheds ⟨A, n2, cap, HLV.out, ?_⟩ hf rfl rfl HI.out.fl (fun k hk => by cases hk; omega), hf.mono (by simp), fun _ hi => .inl hi⟩
    have := HD.out.set3 n
    simp only [sched, HE.out]
    exact this

theorem rdF3_of {w : World} {r q cap : Nat} {m : List Ent} {t : St} (h : Rf w r (.slice (some ⟨q, 0, none⟩) m.length cap) m t) : ∀ j, j ≤ m.length → RdF3 w ⟨q, j * 3, none⟩ (m.drop j) := by
  intro j hj i u hu
  rcases h.row.2 with ⟨hv, _⟩ | ⟨q2, cap2, cur, hv, _, hq, h1, h2, h3, h4⟩
  · cases hv
  · cases hv
    have ea : (⟨q, j * 3, none⟩ : Addr).add i = ⟨q, j * 3 + i, none⟩ := by
      unfold Addr.add
      split
      · rename_i h0; rw [h0]; rfl
      · rfl
    have e : rowOf m = rowOf (m.take j) ++ rowOf (m.drop j) := by rw [← rowOf_append, List.take_append_drop]
    have hl : (rowOf (m.take j)).length = j * 3 := by rw [rowOf_len, List.length_take, Nat.min_eq_left hj]
    have hi : (rowOf m)[j * 3 + i]? = some u := by
      rw [e, List.getElem?_append_right (by omega), hl, Nat.add_sub_cancel_left]
      exact hu
    have hlt := (List.getElem?_eq_some_iff.1 hi).1
    rw [rowOf_len] at hlt
    rw [ea, cell_of_row w q (j * 3 + i) cur _ (0, 0) hq, ← hi, ← h4, List.getElem?_take, if_pos hlt, Array.getElem?_toList]
/-- out, as a whole -/
theorem out_rf (r : Nat) (lv : Value) (m : List Ent) (t : St) (k : Nat) (w : World) (h : Rf w r lv m t) (hm : t.fs.length ≤ 1000000) (hk : k < m.length) :
    Calls Try.prog 50 #[.pointer (some ⟨r, 0, none⟩), .int .i64 (k : Int)] w fun e w' => e = .returned (.tuple #[]) ∧ Turned w r (t.room : Int) (sched t.fail) (sched t.arm) t.off (m.take k ++ m.drop (k + 1)) w' := by
  obtain ⟨q, cap, hv, hc, hcm, _⟩ := h.cell k hk
  obtain ⟨A, cap2, hv2, hd, _⟩ := h.form
  rw [hv] at hv2
  cases hv2
  subst hv
  exact out_any r q k cap _ _ _ _ m w hd (h.lt.2 q rfl) hk hc (by rw [h.len]; exact hm) h.flat (rdF3_of h)
/-- put, as a whole -/
theorem put_rf (r : Nat) (lv : Value) (m : List Ent) (t : St) (e : Ent) (w : World) (h : Rf w r lv m t) (hm : t.fs.length ≤ 1000000) (he : Flat [e]) (hne : ∀ a ∈ m, a.nm ≠ e.nm) :
    Calls Try.prog 47 #[.pointer (some ⟨r, 0, none⟩), .agg #[.string ⟨e.nm.toArray⟩, e.v, .int .i64 (e.s : Int)]] w fun en w' => en = .returned (.tuple #[]) ∧ Turned w r (t.room : Int) (sched t.fail) (sched t.arm) t.off (ins Ent.nm e m) w' := by
  obtain ⟨A, cap2, hv2, hd, _⟩ := h.form
  rcases h.row.2 with ⟨hv, h0⟩ | ⟨q, cap, cur, hv, _, hq, hc, hcm, _⟩
  · rw [hv] at hv2
    have hm0 : m = [] := List.eq_nil_of_length_eq_zero h0
    subst hm0
    cases hv2
    exact put_nil r _ _ _ _ e w hd he
  · rw [hv] at hv2
    cases hv2
    subst hv
    exact put_some r q _ _ _ _ _ m e w hd (h.lt.2 q rfl) hc (by rw [h.len]; exact hm) h.flat he hne (rdF3_of h)
end Go.Proofs.Ythdpdhjhpbkhaaa.Dk
