/-
  The document's own disk: Rename. Conditions: it lies in memory as it was made (Rf).
-/
import Derived.Test.YthdpdhjhpbkhaaaDiskRefS
namespace Go.Proofs.Ythdpdhjhpbkhaaa.Dk
open Go.RowKit Go.Proofs.Ythdpdhjhpbkhaaa.Fld

/-- files, and the slice that holds them, are others now: told by the files -/
theorem Rf.turned2 {w w' : World} {r : Nat} {lv : Value} {m m' : List Ent} {t t' : St} (h : Rf w r lv m t) (hT : Turned w r (t.room : Int) (sched t.fail) (sched t.arm) t.off m' w') (hfs : t'.fs = m'.map Ent.fil) (hg : Good t') (hr : t'.room = t.room) (hfl : t'.fail = t.fail) (hal : t'.arm = t.arm) (hof : t'.off = t.off)
    (hb : ∀ e ∈ m', BytesAt w e ∧ ∀ i, e.v.ownBlock = some i → i < w.heap.size ∧ i ≠ r) : ∃ lv', Rf w' r lv' m' t' ∧ Fr [r] w w' ∧ ∀ i, lv'.ownBlock = some i → w.heap.size ≤ i := by
  obtain ⟨A, n, cap, hD, hrow, hbl, hf⟩ := hT
  refine ⟨.slice A n cap, ⟨⟨A, n, cap, rfl, by rw [hr, hfl, hal, hof]; exact hD⟩, hrow, fun e he => (hb e he).1.of_block fun i hi => hf.block i ((hb e he).2 i hi).1 (by simpa using ((hb e he).2 i hi).2), hfs, hg, ⟨fun hh => by have := (hbl r hh).1; have := h.lt.1; omega, ?_⟩, by rw [hfl]; exact h.fl, by rw [hal]; exact h.al, fun i hi => by obtain ⟨e, he, hv⟩ := mem_blks.1 hi; exact Nat.lt_of_lt_of_le ((hb e he).2 i hv).1 hf.size⟩, hf, fun i hi => (hbl i hi).1⟩
  intro i hi
  obtain ⟨e, he, hv⟩ := mem_blks.1 hi
  have h2 := (hb e he).2 i hv
  exact ⟨h2.2, fun hh => by have := (hbl i hh).1; omega⟩
/-- a file that is there is gone -/
theorem out_step (r : Nat) (lv : Value) (m : List Ent) (t : St) (s : ByteArray) (e : Ent) (w : World) (h : Rf w r lv m t) (hm : t.fs.length ≤ 1000000) (hf : found m s = some e) :
    Calls Try.prog 50 #[.pointer (some ⟨r, 0, none⟩), .int .i64 (plc m s)] w fun en w' => en = .returned (.tuple #[]) ∧ ∃ lv', Rf w' r lv' (del Ent.nm s.data.toList m) { t with fs := fdel s.data.toList t.fs } ∧ Fr [r] w w' ∧ ∀ i, lv'.ownBlock = some i → w.heap.size ≤ i := by
  obtain ⟨k, hk, hpl, hke⟩ := plc_found h.up hf
  have hd : del Ent.nm s.data.toList m = m.take k ++ m.drop (k + 1) := by rw [← (get_some hf).2, ← hke]; exact del_at h.up k hk
  rw [hpl]
  refine (out_rf r lv m t k w h hm hk).mono ?_
  rintro en w' ⟨rfl, hT⟩
  rw [← hd] at hT
  refine ⟨rfl, h.turned2 hT ?_ (h.good.del _) rfl rfl rfl rfl fun a ha => h.old (mem_del.1 ha).1⟩
  rw [map_del (k1 := Ent.nm) (k2 := Prod.fst) Ent.fil (fun _ => rfl), ← h.fs]
  rfl
theorem str_back (u : ByteArray) : (⟨u.data.toList.toArray⟩ : ByteArray) = u := by cases u; simp
theorem del_del (m : List Ent) (x y : Nm) : del Ent.nm x (del Ent.nm y m) = del Ent.nm y (del Ent.nm x m) := by
  unfold del
  simp only [List.filter_filter]
  congr 1
  funext a
  cases (a.nm == x) <;> cases (a.nm == y) <;> rfl
theorem ren_comm2 {m : List Ent} (hu : Up Ent.nm m) (x : Nm) (e : Ent) (hx : e.nm ≠ x) : ins Ent.nm e (del Ent.nm e.nm (del Ent.nm x m)) = del Ent.nm x (put Ent.nm e (del Ent.nm e.nm m)) := by
  unfold put
  have h1 : del Ent.nm e.nm (del Ent.nm e.nm m) = del Ent.nm e.nm m := by
    unfold del
    rw [List.filter_filter]
    congr 1
    funext a
    simp
  rw [h1, del_del]
  exact (filter_ins _ e (by simpa using hx) (hu.del _)).symm
/-- the last step of Rename -/
theorem ren_last {w w5 w6 : World} {r : Nat} {lv lv5 : Value} {m : List Ent} {t : St} {s u : ByteArray} {e : Ent} (h : Rf w r lv m t) (hf : found m s = some e) (hne : s.data.toList ≠ u.data.toList) (hu : okN u.data.toList = true)
    (h5 : Rf w5 r lv5 (del Ent.nm u.data.toList (del Ent.nm s.data.toList m)) { t with fs := fdel u.data.toList (fdel s.data.toList t.fs) }) (hfr : Fr [r] w w5)
    (hT : Turned w5 r (t.room : Int) (sched t.fail) (sched t.arm) t.off (ins Ent.nm ⟨u.data.toList, e.v, e.zs, e.s⟩ (del Ent.nm u.data.toList (del Ent.nm s.data.toList m))) w6) :
    RLeft w r lv m { t with fs := fdel s.data.toList (fput (u.data.toList, e.zs, e.s) (fdel u.data.toList t.fs)) } w6 := by
  obtain ⟨he1, he2⟩ := get_some hf
  have hg : fget s.data.toList t.fs = some e.fil := by rw [h.get, hf]; rfl
  have ho := h.old he1
  have hcomm := ren_comm2 h.up s.data.toList ⟨u.data.toList, e.v, e.zs, e.s⟩ (Ne.symm hne)
  have hmem : ∀ a ∈ ins Ent.nm ⟨u.data.toList, e.v, e.zs, e.s⟩ (del Ent.nm u.data.toList (del Ent.nm s.data.toList m)), (a.v = e.v ∧ a.zs = e.zs) ∨ a ∈ m := by
    intro a ha
    rcases mem_ins.1 ha with rfl | ha
    · exact .inl ⟨rfl, rfl⟩
    · exact .inr (mem_del.1 (mem_del.1 ha).1).1
  have hold : ∀ a ∈ ins Ent.nm ⟨u.data.toList, e.v, e.zs, e.s⟩ (del Ent.nm u.data.toList (del Ent.nm s.data.toList m)), BytesAt w5 a ∧ ∀ i, a.v.ownBlock = some i → i < w5.heap.size ∧ i ≠ r := by
    intro a ha
    have h1 : BytesAt w a ∧ ∀ i, a.v.ownBlock = some i → i < w.heap.size ∧ i ≠ r := by
      rcases hmem a ha with ⟨hv, hz⟩ | ha
      · unfold BytesAt
        rw [hv, hz]
        exact ho
      · exact h.old ha
    refine ⟨h1.1.of_block fun i hi => hfr.block i (h1.2 i hi).1 ?_, fun i hi => ⟨Nat.lt_of_lt_of_le (h1.2 i hi).1 hfr.size, (h1.2 i hi).2⟩⟩
    simpa using (h1.2 i hi).2
  have hfs6 : ({ t with fs := fdel s.data.toList (fput (u.data.toList, e.zs, e.s) (fdel u.data.toList t.fs)) } : St).fs = (ins Ent.nm ⟨u.data.toList, e.v, e.zs, e.s⟩ (del Ent.nm u.data.toList (del Ent.nm s.data.toList m))).map Ent.fil := by
    have h7 := congrArg (List.map Ent.fil) hcomm
    refine Eq.trans ?_ h7.symm
    rw [map_del (k1 := Ent.nm) (k2 := Prod.fst) Ent.fil (fun _ => rfl), map_put (k1 := Ent.nm) (k2 := Prod.fst) Ent.fil (fun _ => rfl), map_del (k1 := Ent.nm) (k2 := Prod.fst) Ent.fil (fun _ => rfl), ← h.fs]
    rfl
  obtain ⟨lv6, h6, hf6, hl6⟩ := h5.turned2 (t' := { t with fs := fdel s.data.toList (fput (u.data.toList, e.zs, e.s) (fdel u.data.toList t.fs)) }) hT hfs6 (h.good.ren hg hne hu) rfl rfl rfl rfl hold
  refine ⟨lv6, _, h6, (hfr.same hf6).mono (by simp), ?_⟩
  intro i hi
  simp only [rfoot, List.mem_cons, List.mem_append, Option.mem_toList] at hi ⊢
  rcases hi with hi | hi | hi
  · exact .inl (.inl hi)
  · exact .inr (Nat.le_trans hfr.size (hl6 i hi))
  · obtain ⟨a, ha, hv⟩ := mem_blks.1 hi
    rcases hmem a ha with ⟨h1, _⟩ | ha
    · exact .inl (.inr (.inr (mem_blks.2 ⟨e, he1, by rw [← h1]; exact hv⟩)))
    · exact .inl (.inr (.inr (mem_blks.2 ⟨a, ha, hv⟩)))
theorem fdel_len (fs : List Fil) (x : Nm) : (fdel x fs).length ≤ fs.length := List.length_filter_le _ _
set_option maxRecDepth 100000 in
set_option maxHeartbeats 3200000 in
/-- Rename, where there is such a file and the names are unlike, behind change -/
theorem rren_ok (r : Nat) (lv : Value) (m : List Ent) (t : St) (s u : ByteArray) (e : Ent) (w0 : World) (HC : Calls Try.prog 45 #[.pointer (some ⟨r, 0, none⟩), .string s, .string u] w0 fun en w' => en = .returned (.int .i64 0) ∧ Rf w' r lv m t ∧ Fr [r] w0 w') (hm : t.fs.length ≤ 1000000) (_hml : m.length ≤ 1000000)
    (hf : found m s = some e) (hne : s.data.toList ≠ u.data.toList) (hu : okN u.data.toList = true) (hup : Up Ent.nm m) :
    Calls Try.prog 27 #[.pointer (some ⟨r, 0, none⟩), .string s, .string u] w0 (RDid w0 r lv m (0, { t with fs := fdel s.data.toList (fput (u.data.toList, e.zs, e.s) (fdel u.data.toList t.fs)) })) := by
  have HC1 := Lib.hid HC
  obtain ⟨k, hk, hpl, hke⟩ := plc_found hup hf
  have HPL := Lib.hid (fun w1 (hR : Rf w1 r lv m t) => place_any r lv m t s w1 hR hm)
  have HOUT := Lib.hid (fun w1 lv (hR : Rf w1 r lv m t) => out_step r lv m t s e w1 hR hm hf)
  rw [hpl] at HPL HOUT
  have hsn := str_neq hne
  have HLAST := Lib.hid (fun w w5 w6 lv5 (h : Rf w r lv m t) h5 hfr hT => ren_last (w := w) (w5 := w5) (w6 := w6) (lv5 := lv5) h hf hne hu h5 hfr hT)
  generalize hst : ({ t with fs := fdel s.data.toList (fput (u.data.toList, e.zs, e.s) (fdel u.data.toList t.fs)) } : St) = t' at *
  clear HC hpl
  go_enter Try.func27, Try.ntmps27
  go_wp2_with fail
  refine HC1.out.mono ?_
  rintro en w1 ⟨rfl, hR, hF⟩
  have HR := Lib.hid hR
  have HF := Lib.hid hF
  clear hF
  go_wp2_with fail
  refine (HPL.out _ HR.out).mono ?_
  rintro en w2 ⟨rfl, rfl⟩
  obtain ⟨q, cap, hv, hc1, hc2, k0, k1, k2, kf⟩ := hR.cell k hk
  obtain ⟨A, cap2, hv2, hd, _⟩ := hR.form
  rw [hv] at hv2
  cases hv2
  obtain ⟨c0, c1, c2, c3, c4⟩ := hd.cells
  obtain ⟨BA, bc, hbv, _⟩ := hR.byt m[k] (List.getElem_mem hk)
  rw [hke] at hbv k0 k1 k2
  rw [hbv] at k1
  have hki : ¬ ((k : Int) < 0) := by omega
  clear hR kf hd
  have hb2 : Below w1.heap.size w1 (w1.alloc (.cells #[.string ⟨e.nm.toArray⟩, .slice BA e.zs.length bc, .int .i64 (e.s : Int)] 75)) := (Below.refl _ _).alloc (Nat.le_refl _) _
  have hR2 : Rf (w1.alloc (.cells #[.string ⟨e.nm.toArray⟩, .slice BA e.zs.length bc, .int .i64 (e.s : Int)] 75)) r lv m t := HR.out.of_blocks fun i hi => hb2.block i (by
    simp only [rfoot, List.mem_cons, List.mem_append, Option.mem_toList] at hi
    rcases hi with rfl | hi | hi
    · exact HR.out.lt.1
    · exact HR.out.lt.2 i hi
    · exact HR.out.bl i hi)
  have HR2 := Lib.hid hR2
  have HB2 := Lib.hid hb2
  have HBV := Lib.hid hbv
  have hrl := HR.out.lt.1
  clear hR2 hb2 hbv
  go_wp2_with fail
  refine (HOUT.out _ lv HR2.out).mono ?_
  rintro en w3 ⟨rfl, lv3, hR3, hF3, hl3⟩
  have hs3 := hF3.size
  rw [size_up] at hs3
  have hN3 := (hF3.block w1.heap.size (by rw [size_up]; omega) (by simp; omega)).trans (heap_alloc_new w1 _)
  have HR3 := Lib.hid hR3
  have HF3 := Lib.hid hF3
  have HL3 := Lib.hid (show ∀ i, lv3.ownBlock = some i → w1.heap.size < i from fun i hi => by have := hl3 i hi; rw [size_up] at this; omega)
  have HN3 := Lib.hid hN3
  have hm3 : (fdel s.data.toList t.fs).length ≤ 1000000 := Nat.le_trans (fdel_len _ _) hm
  have HPL2 := Lib.hid (place_any r lv3 (del Ent.nm s.data.toList m) _ u w3 hR3 hm3)
  -- what is left to do, from a world in which no file bears the name any more
  have hfin : ∀ (w4 : World) (lv4 : Value), Rf w4 r lv4 (del Ent.nm u.data.toList (del Ent.nm s.data.toList m)) { t with fs := fdel u.data.toList (fdel s.data.toList t.fs) } → Fr [r] w1 w4 → w4.heap[w1.heap.size]? = some (.cells #[.string ⟨e.nm.toArray⟩, .slice BA e.zs.length bc, .int .i64 (e.s : Int)] 75 (0, 0)) → (∀ i, lv4.ownBlock = some i → w1.heap.size < i) →
      Calls Try.prog 47 #[.pointer (some ⟨r, 0, none⟩), .agg #[.string u, .slice BA e.zs.length bc, .int .i64 (e.s : Int)]] (w4.setCell ⟨w1.heap.size, 0, none⟩ (.string u)) fun en w6 => en = .returned (.tuple #[]) ∧ RLeft w1 r lv m t' w6 := by
    intro w4 lv4 hR4 hF4 hN4 hl4
    have hF5 : Fr [r] w1 (w4.setCell ⟨w1.heap.size, 0, none⟩ (.string u)) := hF4.setCell _ (.inr (Nat.le_refl _)) _
    have hR5 : Rf (w4.setCell ⟨w1.heap.size, 0, none⟩ (.string u)) r lv4 (del Ent.nm u.data.toList (del Ent.nm s.data.toList m)) { t with fs := fdel u.data.toList (fdel s.data.toList t.fs) } := hR4.of_blocks fun i hi => Below.heap_setCell _ _ _ _ (by
      simp only [rfoot, List.mem_cons, List.mem_append, Option.mem_toList] at hi
      rcases hi with rfl | hi | hi
      · simp; omega
      · have := hl4 i hi; simp; omega
      · have := HR.out.bl i (blks_del (blks_del hi)); simp; omega)
    have h7 := put_rf r lv4 _ _ ⟨u.data.toList, e.v, e.zs, e.s⟩ _ hR5 (Nat.le_trans (fdel_len _ _) hm3) (fun a ha => by simp at ha; subst ha; exact ⟨BA, _, bc, HBV.out⟩) (fun a ha => (mem_del.1 ha).2)
    simp only [str_back, HBV.out] at h7
    refine h7.mono ?_
    rintro en w6 ⟨rfl, hT⟩
    refine ⟨rfl, HLAST.out w1 _ w6 lv4 HR.out hR5 hF5 ?_⟩
    simp only [HBV.out]
    exact hT
  have HFIN := Lib.hid hfin
  clear hfin hR3 hF3 hl3 hN3
  have hF13 : Fr [r] w1 w3 := (Fr.below (S := [r]) HB2.out).same HF3.out
  have HF13 := Lib.hid hF13
  clear hF13
  cases hf2 : found (del Ent.nm s.data.toList m) u with
  | none =>
    rw [plc_lost hf2] at HPL2
    have hdn := del_none hf2
    have HP := Lib.hid (HFIN.out w3 lv3 (by
      rw [hdn]
      have h8 := HR3.out
      have h9 : fdel u.data.toList (fdel s.data.toList t.fs) = fdel s.data.toList t.fs := by
        have := congrArg (List.map Ent.fil) hdn
        rw [map_del (k1 := Ent.nm) (k2 := Prod.fst) Ent.fil (fun _ => rfl), ← HR3.out.fs] at this
        exact this
      rw [h9]
      exact h8) HF13.out HN3.out HL3.out)
    have b0 := cell_of_row w3 w1.heap.size 0 _ _ (0, 0) HN3.out
    have b1 := cell_of_row w3 w1.heap.size 1 _ _ (0, 0) HN3.out
    have b2 := cell_of_row w3 w1.heap.size 2 _ _ (0, 0) HN3.out
    have z0 := frozen_of_row w3 w1.heap.size 0 _ _ HN3.out
    go_wp2_with (first | (go_at_call 46; refine HPL2.out.mono ?_; rintro en w4 ⟨rfl, rfl⟩) | (go_at_call 47; refine HP.out.mono ?_; rintro en w6 ⟨rfl, hL⟩; have HL := Lib.hid hL; clear hL))
    go_ret
    exact ⟨rfl, HL.out.after HF.out⟩
  | some e2 =>
    obtain ⟨k2', hk2', hpl2, _⟩ := plc_found HR3.out.up hf2
    have HOUT2 := Lib.hid (out_step r lv3 _ _ u e2 w3 HR3.out hm3 hf2)
    rw [hpl2] at HPL2 HOUT2
    go_wp2_with (first | (go_at_call 46; refine HPL2.out.mono ?_; rintro en w4 ⟨rfl, rfl⟩) | (go_at_call 50; refine HOUT2.out.mono ?_; rintro en w4 ⟨rfl, lv4, hR4, hF4, hl4⟩; have hN4 := (hF4.block w1.heap.size (by omega) (by simp; omega)).trans HN3.out; have b0 := cell_of_row w4 w1.heap.size 0 _ _ (0, 0) hN4; have b1 := cell_of_row w4 w1.heap.size 1 _ _ (0, 0) hN4; have b2 := cell_of_row w4 w1.heap.size 2 _ _ (0, 0) hN4; have z0 := frozen_of_row w4 w1.heap.size 0 _ _ hN4; have HP := Lib.hid (HFIN.out w4 lv4 hR4 (HF13.out.same hF4) hN4 (fun i hi => by have := hl4 i hi; omega)); clear hR4 hF4 hl4 hN4) | (go_at_call 47; refine HP.out.mono ?_; rintro en w6 ⟨rfl, hL⟩; have HL := Lib.hid hL; clear hL))
    go_ret
    exact ⟨rfl, HL.out.after HF.out⟩
set_option maxRecDepth 100000 in
set_option maxHeartbeats 3200000 in
theorem rren_any (r : Nat) (lv : Value) (m : List Ent) (t : St) (s u : ByteArray) (w : World) (h : Rf w r lv m t) (hm : t.fs.length ≤ 1000000) (hs : s.size ≤ maxLen) (hu : u.size ≤ maxLen) :
    Calls Try.prog 27 #[.pointer (some ⟨r, 0, none⟩), .string s, .string u] w (RDid w r lv m (stRename s.data.toList u.data.toList t)) := by
  have HC := Lib.hid (change_rf r lv m t s u w h hs hu)
  have HUP := Lib.hid h.up
  have HGET := Lib.hid (h.get s)
  have hml : m.length ≤ 1000000 := by rw [h.len]; exact hm
  unfold stRename doing
  have hok : ((okN s.data.toList && okN u.data.toList) = false ∧ chgN (okN s.data.toList && okN u.data.toList) t = (1, t)) ∨ ((okN s.data.toList && okN u.data.toList) = true ∧ chgN (okN s.data.toList && okN u.data.toList) t = chg t) := by
    cases (okN s.data.toList && okN u.data.toList)
    · exact .inl ⟨rfl, rfl⟩
    · exact .inr ⟨rfl, rfl⟩
  rcases hok with ⟨hk, he⟩ | ⟨hk, he⟩
  · rw [he] at HC
    rw [hk, if_neg (by simp)]
    clear he h
    go_enter Try.func27, Try.ntmps27
    go_wp2_with (go_at_call 45; refine HC.out.mono ?_; rintro e w1 ⟨rfl, hR, hF⟩; have HR := Lib.hid hR; have HF := Lib.hid hF; clear hR hF)
    go_ret
    exact ⟨rfl, (RLeft.same HR.out).after HF.out⟩
  · rw [he] at HC
    rw [hk, if_pos rfl]
    have HSM := Lib.hid (chg_same t)
    have hu2 : okN u.data.toList = true := by rw [Bool.and_eq_true] at hk; exact hk.2
    clear he h hk
    by_cases h0 : (chg t).1 = 0
    · rw [if_pos h0]
      rw [h0] at HC
      have hfs : (chg t).2.fs.length ≤ 1000000 := by rw [HSM.out.2]; exact hm
      generalize (chg t).2 = t1 at *
      have HPL := Lib.hid (fun w1 (hR : Rf w1 r lv m t1) => place_any r lv m t1 s w1 hR hfs)
      unfold ren1
      cases hf : found m s with
      | none =>
        rw [show fget s.data.toList t1.fs = none by rw [HSM.out.2, HGET.out, hf]; rfl]
        simp only
        rw [plc_lost hf] at HPL
        clear h0
        go_enter Try.func27, Try.ntmps27
        go_wp2_with (first | (go_at_call 45; refine HC.out.mono ?_; rintro e w1 ⟨rfl, hR, hF⟩; have HR := Lib.hid hR; have HF := Lib.hid hF; clear hR hF) | (go_at_call 46; refine (HPL.out _ HR.out).mono ?_; rintro e w2 ⟨rfl, rfl⟩))
        go_ret
        exact ⟨rfl, (RLeft.same HR.out).after HF.out⟩
      | some e =>
        rw [show fget s.data.toList t1.fs = some e.fil by rw [HSM.out.2, HGET.out, hf]; rfl]
        simp only
        by_cases hne : s.data.toList = u.data.toList
        · obtain rfl := nm_inj hne
          rw [if_pos rfl]
          obtain ⟨k, hk, hpl, hke⟩ := plc_found HUP.out hf
          rw [hpl] at HPL
          have hsm := str_same' s
          have hki : ¬ ((k : Int) < 0) := by omega
          clear h0 hpl
          go_enter Try.func27, Try.ntmps27
          go_wp2_with (first | (go_at_call 45; refine HC.out.mono ?_; rintro e w1 ⟨rfl, hR, hF⟩; have HR := Lib.hid hR; have HF := Lib.hid hF; clear hR hF) | (go_at_call 46; refine (HPL.out _ HR.out).mono ?_; rintro e w2 ⟨rfl, rfl⟩))
          go_ret
          exact ⟨rfl, (RLeft.same HR.out).after HF.out⟩
        · rw [if_neg hne]
          exact rren_ok r lv m t1 s u e w HC.out hfs hml hf hne hu2 HUP.out
    · rw [if_neg h0]
      have j : ((chg t).1 == 0) = false := by simpa using h0
      rw [show chg t = ((chg t).1, (chg t).2) from rfl]
      generalize (chg t).2 = t1 at *
      generalize (chg t).1 = c at *
      go_enter Try.func27, Try.ntmps27
      go_wp2_with (go_at_call 45; refine HC.out.mono ?_; rintro e w1 ⟨rfl, hR, hF⟩; have HR := Lib.hid hR; have HF := Lib.hid hF; clear hR hF)
      go_ret
      exact ⟨rfl, (RLeft.same HR.out).after HF.out⟩
end Go.Proofs.Ythdpdhjhpbkhaaa.Dk
