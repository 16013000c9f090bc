/-
  Layer 8: lists of entries in the program: allValid, follow, behind, missing. Conditions: the lists can be read.
-/
import Derived.Test.YtnhcbampojpgfaaGreatRlgA
namespace Go.Proofs.YtnhcbampojpgfaaGreat.Rg
open Go.RowKit Go.Proofs.YtnhcbampojpgfaaGreat.Fld
set_option linter.unusedVariables false

/-- the program's log, as what looks at it wants it -/
structure Lo (w : World) (g : Nat) (s : St) (A : Option Addr) (n cap : Nat) (ys : List EA) : Prop where
  lb : Lb w g s.base s.bt (.slice A n cap) s.com s.app
  rd : RdE w A n ys
  es : ens ys = s.es
  b0 : 0 ≤ s.base
  b1 : s.base + n ≤ 1099511627776
theorem Lo.below {w w' : World} {g : Nat} {s : St} {A : Option Addr} {n cap : Nat} {ys : List EA} (h : Lo w g s A n cap ys) (hb : Below w.heap.size w w') : Lo w' g s A n cap ys := ⟨Blk.below h.lb hb, h.rd.below hb, h.es, h.b0, h.b1⟩
theorem Lo.still {w w' : World} {g : Nat} {s : St} {A : Option Addr} {n cap : Nat} {ys : List EA} (h : Lo w g s A n cap ys) (hs : Still w w') : Lo w' g s A n cap ys := h.below (below_still hs (Nat.le_refl _))
theorem Lo.n {w : World} {g : Nat} {s : St} {A : Option Addr} {n cap : Nat} {ys : List EA} (h : Lo w g s A n cap ys) : s.es.length = n := by rw [← h.es, ens_len]; exact h.rd.len
theorem Lo.last_dr {w : World} {g : Nat} {s : St} {A : Option Addr} {n cap : Nat} {ys : List EA} (h : Lo w g s A n cap ys) : Calls Tryz.prog 39 #[.pointer (some ⟨g, 0, none⟩)] w fun e w' => e = .returned (.int .i64 s.last) ∧ ∃ m, w' = w.drewN m := by
  have := Rg.last_dr g s.base s.bt s.com s.app A n cap w h.lb h.b0 h.b1
  rw [show s.last = s.base + n by unfold St.last; rw [h.n]]
  exact this
theorem Lo.term_dr {w : World} {g : Nat} {s : St} {A : Option Addr} {n cap : Nat} {ys : List EA} (h : Lo w g s A n cap ys) (i : Int) : Calls Tryz.prog 82 #[.pointer (some ⟨g, 0, none⟩), .int .i64 i] w fun e w' => e = .returned (.tuple #[.int .i64 (termV s i), .bool (termB s i)]) ∧ ∃ m, w' = w.drewN m := by
  have := Rg.term_dr g s.base s.bt s.com s.app i A n cap ys w h.lb h.rd h.b0 h.b1
  rw [h.es] at this
  exact this
theorem Lo.lastTerm_dr {w : World} {g : Nat} {s : St} {A : Option Addr} {n cap : Nat} {ys : List EA} (h : Lo w g s A n cap ys) : Calls Tryz.prog 99 #[.pointer (some ⟨g, 0, none⟩)] w fun e w' => e = .returned (.int .i64 s.lt) ∧ ∃ m, w' = w.drewN m := by
  have := Rg.lastTerm_dr g s.base s.bt s.com s.app A n cap ys w h.lb h.rd h.b0 h.b1
  rw [h.es] at this
  exact this
theorem Lo.has_dr {w : World} {g : Nat} {s : St} {A : Option Addr} {n cap : Nat} {ys : List EA} (h : Lo w g s A n cap ys) (i t : Int) : Calls Tryz.prog 267 #[.pointer (some ⟨g, 0, none⟩), .int .i64 i, .int .i64 t, .func (.func 82) #[] #[]] w fun e w' => e = .returned (.bool (hasB s i t)) ∧ ∃ m, w' = w.drewN m := by
  have := Rg.has_dr g s.base s.bt s.com s.app i t A n cap ys w h.lb h.rd h.b0 h.b1
  rw [h.es] at this
  exact this

theorem ret_bool {a b : Bool} (h : a = b) : Ending.returned (.bool a) = Ending.returned (.bool b) := by rw [h]
theorem okE_parts (e : En) : okE e = (!(e.idx == 0) && okN e.idx && okN e.term && decide (0 ≤ e.kind) && decide (e.kind ≤ 7) && decide (e.data.length ≤ 4096)) := by
  rw [Bool.eq_iff_iff, okE_iff]
  simp only [okN, Bool.and_eq_true, decide_eq_true_eq, Bool.not_eq_true', beq_eq_false_iff_ne]
  omega
theorem take_snoc {l : List En} (k : Nat) (h : k < l.length) : l.take (k + 1) = l.take k ++ [l.getD k en0] := by
  rw [List.take_add_one, List.getElem?_eq_getElem h, List.getD_eq_getElem?_getD, List.getElem?_eq_getElem h]; rfl
theorem okL_at {l : List En} (k : Nat) (h : k < l.length) : (okE (l.getD k en0) = false → okL l = false) ∧ (okL (l.take k) = true → okE (l.getD k en0) = true → okL (l.take (k + 1)) = true) := by
  refine ⟨fun he => ?_, fun h1 h2 => by rw [take_snoc k h, okL_append, h1, Bool.true_and]; show ([l.getD k en0]).all okE = true; rw [List.all_cons, h2]; rfl⟩
  cases hb : okL l with
  | false => rfl
  | true =>
    have := okL_mem hb (e := l.getD k en0) (by rw [List.getD_eq_getElem?_getD, List.getElem?_eq_getElem h]; exact List.getElem_mem _)
    rw [this] at he
    cases he
set_option maxRecDepth 100000 in
set_option maxHeartbeats 3200000 in
theorem allValid_any (A : Option Addr) (n cap : Nat) (xs : List EA) (w : World) (hr : RdE w A n xs) : Calls Tryz.prog 97 #[.slice A n cap] w fun e w' => e = .returned (.bool (okL (ens xs))) ∧ Below w.heap.size w w' := by
  have HR := Lib.hid hr
  have HL := Lib.hid hr.len
  have hm := hr.most
  unfold maxLen at hm
  clear hr
  go_enter Tryz.func97, Tryz.ntmps97
  go_wp2
  go_loopw [7] (fun i wr => ∃ k : Nat, k ≤ n ∧ i = .int .i64 k ∧ okL ((ens xs).take k) = true ∧ Below w.heap.size w wr) (fun i _ => n - (intOf i).toNat)
  case atStart => exact ⟨0, Nat.zero_le _, rfl, rfl, Below.refl _ _⟩
  case round =>
    obtain ⟨k, hk, rfl, hok, hbel⟩ := hrel
    have HOK := Lib.hid hok
    have HBEL := Lib.hid hbel
    clear hok hbel
    by_cases hlt : k < n
    · obtain ⟨b, off, rfl, q0, q1, q2, q3⟩ := (HR.out.below HBEL.out).elem k hlt
      have hkx : k < (ens xs).length := by rw [ens_len]; have := HL.out; omega
      obtain ⟨ha, hb⟩ := okL_at k hkx
      have hb2 := hb HOK.out
      rw [ens_at _ _ (by have := HL.out; omega), okE_parts] at ha hb2
      have HA := Lib.hid ha
      have HT := Lib.hid hb2
      clear ha hb hb2
      generalize xs.getD k ea0 = x at *
      obtain ⟨⟨idx, term, kind, data⟩, XA, xc⟩ := x
      simp only at q0 q1 q2 q3 HA HT
      generalize data.length = D at *
      have k0 : (0 : Int) ≤ (k : Int) := by omega
      have k1 : (k : Int) < (n : Int) := by omega
      have HB2 := Lib.hid (fun ob => HBEL.out.alloc HBEL.out.size ob)
      by_cases h1 : idx = 0
      · subst h1
        have hf : okL (ens xs) = false := HA.out (by simp)
        have HFF := Lib.hid hf
        clear hf
        go_wp2
        go_ret
        exact ⟨ret_bool HFF.out.symm, HB2.out _⟩
      have b1 : (idx == 0) = false := by simpa using h1
      cases h2 : okN idx with
      | false =>
        have hf : okL (ens xs) = false := HA.out (by rw [b1, h2]; rfl)
        have HFF := Lib.hid hf
        clear hf
        go_wp2_with (go_at_call 96; refine (validIndex_any _ _).mono ?_; rintro e w' ⟨rfl, rfl⟩)
        go_ret
        exact ⟨ret_bool HFF.out.symm, HB2.out _⟩
      | true =>
      cases h3 : okN term with
      | false =>
        have hf : okL (ens xs) = false := HA.out (by rw [b1, h2, h3]; rfl)
        have HFF := Lib.hid hf
        clear hf
        go_wp2_with (go_at_call 96; refine (validIndex_any _ _).mono ?_; rintro e w' ⟨rfl, rfl⟩)
        go_ret
        exact ⟨ret_bool HFF.out.symm, HB2.out _⟩
      | true =>
      by_cases h4 : 0 ≤ kind
      rotate_left
      · have h4' : kind < 0 := by omega
        have hf : okL (ens xs) = false := HA.out (by rw [b1, h2, h3, decide_eq_false h4]; rfl)
        have HFF := Lib.hid hf
        clear hf
        go_wp2_with (go_at_call 96; refine (validIndex_any _ _).mono ?_; rintro e w' ⟨rfl, rfl⟩)
        go_ret
        exact ⟨ret_bool HFF.out.symm, HB2.out _⟩
      by_cases h5 : kind ≤ 7
      rotate_left
      · have h5' : 7 < kind := by omega
        have hf : okL (ens xs) = false := HA.out (by rw [b1, h2, h3, decide_eq_true h4, decide_eq_false h5]; rfl)
        have HFF := Lib.hid hf
        clear hf
        go_wp2_with (go_at_call 96; refine (validIndex_any _ _).mono ?_; rintro e w' ⟨rfl, rfl⟩)
        go_ret
        exact ⟨ret_bool HFF.out.symm, HB2.out _⟩
      have h4' : ¬ kind < 0 := by omega
      have h5' : ¬ 7 < kind := by omega
      by_cases h6 : D ≤ 4096
      · have ht := Lib.hid (HT.out (by rw [b1, h2, h3, decide_eq_true h4, decide_eq_true h5, decide_eq_true h6]; rfl))
        have h6' : ¬ (4096 : Int) < (D : Int) := by omega
        go_wp2_with (go_at_call 96; refine (validIndex_any _ _).mono ?_; rintro e w' ⟨rfl, rfl⟩)
        go_roundw
        case rel => exact ⟨k + 1, by omega, by go_num, ht.out, HB2.out _⟩
        case measure => simp [intOf]; omega
      · have h6' : (4096 : Int) < (D : Int) := by omega
        have hf : okL (ens xs) = false := HA.out (by rw [b1, h2, h3, decide_eq_true h4, decide_eq_true h5, decide_eq_false h6]; rfl)
        have HFF := Lib.hid hf
        clear hf
        go_wp2_with (go_at_call 96; refine (validIndex_any _ _).mono ?_; rintro e w' ⟨rfl, rfl⟩)
        go_ret
        exact ⟨ret_bool HFF.out.symm, HB2.out _⟩
    · obtain rfl : k = n := by omega
      have hf : okL (ens xs) = true := by have := HOK.out; rwa [← HL.out, ← ens_len, List.take_length] at this
      have HFF := Lib.hid hf
      clear hf
      go_wp2
      go_ret
      exact ⟨ret_bool HFF.out.symm, HBEL.out⟩
theorem fol_step {l : List En} {i t : Int} (k : Nat) (h : k < l.length) (hf : fol (l.take k) i t = true) : ((l.getD k en0).idx = i + k + 1 → lastT t (l.take k) ≤ (l.getD k en0).term → fol (l.take (k + 1)) i t = true ∧ lastT t (l.take (k + 1)) = (l.getD k en0).term) ∧ ((l.getD k en0).idx ≠ i + k + 1 ∨ (l.getD k en0).term < lastT t (l.take k) → fol l i t = false) := by
  have hl : (l.take k).length = k := by rw [List.length_take]; omega
  refine ⟨fun h1 h2 => ⟨?_, ?_⟩, fun hh => ?_⟩
  · rw [take_snoc k h, fol_append, hl]
    exact ⟨hf, by rw [fol_cons]; exact ⟨by omega, h2, rfl⟩⟩
  · rw [lastT_take (k + 1) (by omega) (by omega)]; rfl
  · cases hb : fol l i t with
    | false => rfl
    | true =>
      have := fol_take hb (k + 1)
      rw [take_snoc k h, fol_append, hl, fol_cons] at this
      omega
set_option maxRecDepth 100000 in
set_option maxHeartbeats 3200000 in
theorem follow_any (A : Option Addr) (n cap : Nat) (xs : List EA) (i t : Int) (w : World) (hr : RdE w A n xs) (ho : okL (ens xs) = true) (hi : -9223372036854775808 ≤ i) (hi2 : i ≤ 9223372036854775807) : Calls Tryz.prog 98 #[.slice A n cap, .int .i64 i, .int .i64 t] w fun e w' => e = .returned (.bool (fol (ens xs) i t)) ∧ Below w.heap.size w w' := by
  have HR := Lib.hid hr
  have HL := Lib.hid hr.len
  have HO := Lib.hid ho
  have hm := hr.most
  unfold maxLen at hm
  clear hr ho
  go_enter Tryz.func98, Tryz.ntmps98
  go_wp2
  go_loopw [1, 2, 11] (fun iv tv c wr => ∃ k : Nat, k ≤ n ∧ c = .int .i64 k ∧ iv = .int .i64 (i + k) ∧ tv = .int .i64 (lastT t ((ens xs).take k)) ∧ fol ((ens xs).take k) i t = true ∧ i + k ≤ 9223372036854775807 ∧ Below w.heap.size w wr) (fun _ _ c _ => n - (intOf c).toNat)
  case atStart => exact ⟨0, Nat.zero_le _, rfl, by simp, rfl, rfl, by simpa using hi2, Below.refl _ _⟩
  case round =>
    obtain ⟨k, hk, rfl, rfl, rfl, hfo, hik, hbel⟩ := hrel
    have HFO := Lib.hid hfo
    have HBEL := Lib.hid hbel
    clear hfo hbel
    by_cases hlt : k < n
    · obtain ⟨b, off, rfl, q0, q1, q2, q3⟩ := (HR.out.below HBEL.out).elem k hlt
      have hkx : k < (ens xs).length := by rw [ens_len]; have := HL.out; omega
      obtain ⟨ha, hb⟩ := fol_step k hkx HFO.out
      have hoe := (okE_iff _).1 (okL_mem HO.out (e := (ens xs).getD k en0) (by rw [List.getD_eq_getElem?_getD, List.getElem?_eq_getElem hkx]; exact List.getElem_mem _))
      rw [ens_at _ _ (by have := HL.out; omega)] at ha hb hoe
      obtain ⟨I, hI⟩ : ∃ I, i + (k : Int) = I := ⟨_, rfl⟩
      have HI := Lib.hid hI
      rw [hI] at ha hb hik ⊢
      have HA := Lib.hid ha
      have HF := Lib.hid hb
      have hIlo : -9223372036854775808 ≤ I := by omega
      clear ha hb hI
      generalize lastT t ((ens xs).take k) = T at *
      generalize xs.getD k ea0 = x at *
      obtain ⟨⟨idx, term, kind, data⟩, XA, xc⟩ := x
      simp only at q0 q1 q2 q3 HA HF hoe
      generalize data.length = D at *
      have k0 : (0 : Int) ≤ (k : Int) := by omega
      have k1 : (k : Int) < (n : Int) := by omega
      have i0 := hoe.1
      have i1 := hoe.2.1
      clear hoe
      have HB2 := Lib.hid (fun ob => HBEL.out.alloc HBEL.out.size ob)
      by_cases hbig : I ≤ 4611686018427387904
      rotate_left
      · have b1 : (idx == wrap64 (I + 1)) = false := by
          rw [beq_eq_false_iff_ne]
          unfold wrap64
          omega
        have b2 : (idx != wrap64 (I + 1)) = true := by rw [bne, b1]; rfl
        have hf : fol (ens xs) i t = false := HF.out (.inl (by omega))
        have HFF := Lib.hid hf
        clear hf
        go_wp2
        go_ret
        exact ⟨ret_bool HFF.out.symm, HB2.out _⟩
      by_cases h1 : idx = I + 1
      rotate_left
      · have b1 : (idx == I + 1) = false := by rw [beq_eq_false_iff_ne]; exact h1
        have b2 : (idx != I + 1) = true := by rw [bne, b1]; rfl
        have hf : fol (ens xs) i t = false := HF.out (.inl h1)
        have HFF := Lib.hid hf
        clear hf
        go_wp2
        go_ret
        exact ⟨ret_bool HFF.out.symm, HB2.out _⟩
      have H1 := Lib.hid h1
      have b1 : (idx == I + 1) = true := by rw [beq_iff_eq]; exact h1
      have b2 : (idx != I + 1) = false := by rw [bne, b1]; rfl
      clear h1
      by_cases h2 : term < T
      · have hf : fol (ens xs) i t = false := HF.out (.inr h2)
        have HFF := Lib.hid hf
        clear hf
        go_wp2
        go_ret
        exact ⟨ret_bool HFF.out.symm, HB2.out _⟩
      · have ht := Lib.hid (HA.out H1.out (by omega))
        go_wp2_with fail
        go_quiet (fail)
        go_wp2
        go_roundw
        case rel => exact ⟨k + 1, by omega, by go_num, by rw [H1.out, ← HI.out]; go_num, by rw [ht.out.2], ht.out.1, by have := HI.out; have := H1.out; omega, (HB2.out _).trans (below_still (still_drewN _ _) (HB2.out _).size)⟩
        case measure => simp [intOf]; omega
    · obtain rfl : k = n := by omega
      have hf : fol (ens xs) i t = true := by have := HFO.out; rwa [← HL.out, ← ens_len, List.take_length] at this
      have HFF := Lib.hid hf
      clear hf
      go_wp2
      go_ret
      exact ⟨ret_bool HFF.out.symm, HBEL.out⟩
end Go.Proofs.YtnhcbampojpgfaaGreat.Rg
