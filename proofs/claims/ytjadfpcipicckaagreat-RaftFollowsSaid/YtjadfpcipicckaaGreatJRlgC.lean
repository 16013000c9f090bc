/-
  Several texts in one: Layer 8: lists of entries in the program: allValid, follow, behind, missing. Conditions: the lists can be read. Layer 8: what is left of a list: behind, and missing with its closure and slices.IndexFunc, in the program. Conditions: the lists can be read. Layer 8: entries that are copied, appended, deleted: append of entries, bytes.Clone, slices.Clone, copied, slices.Delete. Conditions: as each theorem states.
-/
import Derived.Test.YtjadfpcipicckaaGreatJQuV2
import Derived.Lib.LazyBuf
namespace Go.Proofs.YtjadfpcipicckaaGreat.Rg
open Go.RowKit Go.Proofs.YtjadfpcipicckaaGreat.Fld
set_option linter.unusedVariables false

/-- the program's log, as what looks at it wants it -/
structure Lo (w : World) (g : Nat) (s : St) (A : Option Addr) (n cap : Nat) (ys : List EA) : Prop where
  lb : Lb w g s.base s.bt (.slice A n cap) s.com s.app
  rd : RdE w A n ys
  es : ens ys = s.es
  b0 : 0 ≤ s.base
  b1 : s.base + n ≤ 1099511627776
theorem Lo.below {w w' : World} {g : Nat} {s : St} {A : Option Addr} {n cap : Nat} {ys : List EA} (h : Lo w g s A n cap ys) (hb : Below w.heap.size w w') : Lo w' g s A n cap ys := ⟨Blk.below h.lb hb, h.rd.below hb, h.es, h.b0, h.b1⟩
theorem Lo.still {w w' : World} {g : Nat} {s : St} {A : Option Addr} {n cap : Nat} {ys : List EA} (h : Lo w g s A n cap ys) (hs : Still w w') : Lo w' g s A n cap ys := h.below (below_still hs (Nat.le_refl _))
theorem Lo.n {w : World} {g : Nat} {s : St} {A : Option Addr} {n cap : Nat} {ys : List EA} (h : Lo w g s A n cap ys) : s.es.length = n := by rw [← h.es, ens_len]; exact h.rd.len
theorem Lo.last_dr {w : World} {g : Nat} {s : St} {A : Option Addr} {n cap : Nat} {ys : List EA} (h : Lo w g s A n cap ys) : Calls Tryz.prog 22 #[.pointer (some ⟨g, 0, none⟩)] w fun e w' => e = .returned (.int .i64 s.last) ∧ ∃ m, w' = w.drewN m := by
  have := Rg.last_dr g s.base s.bt s.com s.app A n cap w h.lb h.b0 h.b1
  rw [show s.last = s.base + n by unfold St.last; rw [h.n]]
  exact this
theorem Lo.term_dr {w : World} {g : Nat} {s : St} {A : Option Addr} {n cap : Nat} {ys : List EA} (h : Lo w g s A n cap ys) (i : Int) : Calls Tryz.prog 61 #[.pointer (some ⟨g, 0, none⟩), .int .i64 i] w fun e w' => e = .returned (.tuple #[.int .i64 (termV s i), .bool (termB s i)]) ∧ ∃ m, w' = w.drewN m := by
  have := Rg.term_dr g s.base s.bt s.com s.app i A n cap ys w h.lb h.rd h.b0 h.b1
  rw [h.es] at this
  exact this
theorem Lo.lastTerm_dr {w : World} {g : Nat} {s : St} {A : Option Addr} {n cap : Nat} {ys : List EA} (h : Lo w g s A n cap ys) : Calls Tryz.prog 44 #[.pointer (some ⟨g, 0, none⟩)] w fun e w' => e = .returned (.int .i64 s.lt) ∧ ∃ m, w' = w.drewN m := by
  have := Rg.lastTerm_dr g s.base s.bt s.com s.app A n cap ys w h.lb h.rd h.b0 h.b1
  rw [h.es] at this
  exact this
theorem ret_bool {a b : Bool} (h : a = b) : Ending.returned (.bool a) = Ending.returned (.bool b) := by rw [h]
theorem okE_parts (e : En) : okE e = (!(e.idx == 0) && okN e.idx && okN e.term && decide (0 ≤ e.kind) && decide (e.kind ≤ 7) && decide (e.data.length ≤ 4096)) := by
  rw [Bool.eq_iff_iff, okE_iff]
  simp only [okN, Bool.and_eq_true, decide_eq_true_eq, Bool.not_eq_true', beq_eq_false_iff_ne]
  omega
theorem take_snoc {l : List En} (k : Nat) (h : k < l.length) : l.take (k + 1) = l.take k ++ [l.getD k en0] := by
  rw [List.take_add_one, List.getElem?_eq_getElem h, List.getD_eq_getElem?_getD, List.getElem?_eq_getElem h]; rfl
theorem okL_at {l : List En} (k : Nat) (h : k < l.length) : (okE (l.getD k en0) = false → okL l = false) ∧ (okL (l.take k) = true → okE (l.getD k en0) = true → okL (l.take (k + 1)) = true) := by
  refine ⟨fun he => ?_, fun h1 h2 => by rw [take_snoc k h, okL_append, h1, Bool.true_and]; show ([l.getD k en0]).all okE = true; rw [List.all_cons, h2]; rfl⟩
  cases hb : okL l with
  | false => rfl
  | true =>
    have := okL_mem hb (e := l.getD k en0) (by rw [List.getD_eq_getElem?_getD, List.getElem?_eq_getElem h]; exact List.getElem_mem _)
    rw [this] at he
    cases he
set_option maxRecDepth 100000 in
set_option maxHeartbeats 3200000 in
theorem allValid_any (A : Option Addr) (n cap : Nat) (xs : List EA) (w : World) (hr : RdE w A n xs) : Calls Tryz.prog 42 #[.slice A n cap] w fun e w' => e = .returned (.bool (okL (ens xs))) ∧ Below w.heap.size w w' := by
  have HR := Lib.hid hr
  have HL := Lib.hid hr.len
  have hm := hr.most
  unfold maxLen at hm
  clear hr
  go_enter Tryz.func42, Tryz.ntmps42
  go_wp2
  go_loopw [7] (fun i wr => ∃ k : Nat, k ≤ n ∧ i = .int .i64 k ∧ okL ((ens xs).take k) = true ∧ Below w.heap.size w wr) (fun i _ => n - (intOf i).toNat)
  case atStart => exact ⟨0, Nat.zero_le _, rfl, rfl, Below.refl _ _⟩
  case round =>
    obtain ⟨k, hk, rfl, hok, hbel⟩ := hrel
    have HOK := Lib.hid hok
    have HBEL := Lib.hid hbel
    clear hok hbel
    by_cases hlt : k < n
    · obtain ⟨b, off, rfl, q0, q1, q2, q3⟩ := (HR.out.below HBEL.out).elem k hlt
      have hkx : k < (ens xs).length := by rw [ens_len]; have := HL.out; omega
      obtain ⟨ha, hb⟩ := okL_at k hkx
      have hb2 := hb HOK.out
      rw [ens_at _ _ (by have := HL.out; omega), okE_parts] at ha hb2
      have HA := Lib.hid ha
      have HT := Lib.hid hb2
      clear ha hb hb2
      generalize xs.getD k ea0 = x at *
      obtain ⟨⟨idx, term, kind, data⟩, XA, xc⟩ := x
      simp only at q0 q1 q2 q3 HA HT
      generalize data.length = D at *
      have k0 : (0 : Int) ≤ (k : Int) := by omega
      have k1 : (k : Int) < (n : Int) := by omega
      have HB2 := Lib.hid (fun ob => HBEL.out.alloc HBEL.out.size ob)
      by_cases h1 : idx = 0
      · subst h1
        have hf : okL (ens xs) = false := HA.out (by simp)
        have HFF := Lib.hid hf
        clear hf
        go_wp2
        go_ret
        exact ⟨ret_bool HFF.out.symm, HB2.out _⟩
      have b1 : (idx == 0) = false := by simpa using h1
      cases h2 : okN idx with
      | false =>
        have hf : okL (ens xs) = false := HA.out (by rw [b1, h2]; rfl)
        have HFF := Lib.hid hf
        clear hf
        go_wp2_with (go_at_call 41; refine (validIndex_any _ _).mono ?_; rintro e w' ⟨rfl, rfl⟩)
        go_ret
        exact ⟨ret_bool HFF.out.symm, HB2.out _⟩
      | true =>
      cases h3 : okN term with
      | false =>
        have hf : okL (ens xs) = false := HA.out (by rw [b1, h2, h3]; rfl)
        have HFF := Lib.hid hf
        clear hf
        go_wp2_with (go_at_call 41; refine (validIndex_any _ _).mono ?_; rintro e w' ⟨rfl, rfl⟩)
        go_ret
        exact ⟨ret_bool HFF.out.symm, HB2.out _⟩
      | true =>
      by_cases h4 : 0 ≤ kind
      rotate_left
      · have h4' : kind < 0 := by omega
        have hf : okL (ens xs) = false := HA.out (by rw [b1, h2, h3, decide_eq_false h4]; rfl)
        have HFF := Lib.hid hf
        clear hf
        go_wp2_with (go_at_call 41; refine (validIndex_any _ _).mono ?_; rintro e w' ⟨rfl, rfl⟩)
        go_ret
        exact ⟨ret_bool HFF.out.symm, HB2.out _⟩
      by_cases h5 : kind ≤ 7
      rotate_left
      · have h5' : 7 < kind := by omega
        have hf : okL (ens xs) = false := HA.out (by rw [b1, h2, h3, decide_eq_true h4, decide_eq_false h5]; rfl)
        have HFF := Lib.hid hf
        clear hf
        go_wp2_with (go_at_call 41; refine (validIndex_any _ _).mono ?_; rintro e w' ⟨rfl, rfl⟩)
        go_ret
        exact ⟨ret_bool HFF.out.symm, HB2.out _⟩
      have h4' : ¬ kind < 0 := by omega
      have h5' : ¬ 7 < kind := by omega
      by_cases h6 : D ≤ 4096
      · have ht := Lib.hid (HT.out (by rw [b1, h2, h3, decide_eq_true h4, decide_eq_true h5, decide_eq_true h6]; rfl))
        have h6' : ¬ (4096 : Int) < (D : Int) := by omega
        go_wp2_with (go_at_call 41; refine (validIndex_any _ _).mono ?_; rintro e w' ⟨rfl, rfl⟩)
        go_roundw
        case rel => exact ⟨k + 1, by omega, by go_num, ht.out, HB2.out _⟩
        case measure => simp [intOf]; omega
      · have h6' : (4096 : Int) < (D : Int) := by omega
        have hf : okL (ens xs) = false := HA.out (by rw [b1, h2, h3, decide_eq_true h4, decide_eq_true h5, decide_eq_false h6]; rfl)
        have HFF := Lib.hid hf
        clear hf
        go_wp2_with (go_at_call 41; refine (validIndex_any _ _).mono ?_; rintro e w' ⟨rfl, rfl⟩)
        go_ret
        exact ⟨ret_bool HFF.out.symm, HB2.out _⟩
    · obtain rfl : k = n := by omega
      have hf : okL (ens xs) = true := by have := HOK.out; rwa [← HL.out, ← ens_len, List.take_length] at this
      have HFF := Lib.hid hf
      clear hf
      go_wp2
      go_ret
      exact ⟨ret_bool HFF.out.symm, HBEL.out⟩
theorem fol_step {l : List En} {i t : Int} (k : Nat) (h : k < l.length) (hf : fol (l.take k) i t = true) : ((l.getD k en0).idx = i + k + 1 → lastT t (l.take k) ≤ (l.getD k en0).term → fol (l.take (k + 1)) i t = true ∧ lastT t (l.take (k + 1)) = (l.getD k en0).term) ∧ ((l.getD k en0).idx ≠ i + k + 1 ∨ (l.getD k en0).term < lastT t (l.take k) → fol l i t = false) := by
  have hl : (l.take k).length = k := by rw [List.length_take]; omega
  refine ⟨fun h1 h2 => ⟨?_, ?_⟩, fun hh => ?_⟩
  · rw [take_snoc k h, fol_append, hl]
    exact ⟨hf, by rw [fol_cons]; exact ⟨by omega, h2, rfl⟩⟩
  · rw [lastT_take (k + 1) (by omega) (by omega)]; rfl
  · cases hb : fol l i t with
    | false => rfl
    | true =>
      have := fol_take hb (k + 1)
      rw [take_snoc k h, fol_append, hl, fol_cons] at this
      omega
set_option maxRecDepth 100000 in
set_option maxHeartbeats 3200000 in
theorem follow_any (A : Option Addr) (n cap : Nat) (xs : List EA) (i t : Int) (w : World) (hr : RdE w A n xs) (ho : okL (ens xs) = true) (hi : -9223372036854775808 ≤ i) (hi2 : i ≤ 9223372036854775807) : Calls Tryz.prog 43 #[.slice A n cap, .int .i64 i, .int .i64 t] w fun e w' => e = .returned (.bool (fol (ens xs) i t)) ∧ Below w.heap.size w w' := by
  have HR := Lib.hid hr
  have HL := Lib.hid hr.len
  have HO := Lib.hid ho
  have hm := hr.most
  unfold maxLen at hm
  clear hr ho
  go_enter Tryz.func43, Tryz.ntmps43
  go_wp2
  go_loopw [1, 2, 11] (fun iv tv c wr => ∃ k : Nat, k ≤ n ∧ c = .int .i64 k ∧ iv = .int .i64 (i + k) ∧ tv = .int .i64 (lastT t ((ens xs).take k)) ∧ fol ((ens xs).take k) i t = true ∧ i + k ≤ 9223372036854775807 ∧ Below w.heap.size w wr) (fun _ _ c _ => n - (intOf c).toNat)
  case atStart => exact ⟨0, Nat.zero_le _, rfl, by simp, rfl, rfl, by simpa using hi2, Below.refl _ _⟩
  case round =>
    obtain ⟨k, hk, rfl, rfl, rfl, hfo, hik, hbel⟩ := hrel
    have HFO := Lib.hid hfo
    have HBEL := Lib.hid hbel
    clear hfo hbel
    by_cases hlt : k < n
    · obtain ⟨b, off, rfl, q0, q1, q2, q3⟩ := (HR.out.below HBEL.out).elem k hlt
      have hkx : k < (ens xs).length := by rw [ens_len]; have := HL.out; omega
      obtain ⟨ha, hb⟩ := fol_step k hkx HFO.out
      have hoe := (okE_iff _).1 (okL_mem HO.out (e := (ens xs).getD k en0) (by rw [List.getD_eq_getElem?_getD, List.getElem?_eq_getElem hkx]; exact List.getElem_mem _))
      rw [ens_at _ _ (by have := HL.out; omega)] at ha hb hoe
      obtain ⟨I, hI⟩ : ∃ I, i + (k : Int) = I := ⟨_, rfl⟩
      have HI := Lib.hid hI
      rw [hI] at ha hb hik ⊢
      have HA := Lib.hid ha
      have HF := Lib.hid hb
      have hIlo : -9223372036854775808 ≤ I := by omega
      clear ha hb hI
      generalize lastT t ((ens xs).take k) = T at *
      generalize xs.getD k ea0 = x at *
      obtain ⟨⟨idx, term, kind, data⟩, XA, xc⟩ := x
      simp only at q0 q1 q2 q3 HA HF hoe
      generalize data.length = D at *
      have k0 : (0 : Int) ≤ (k : Int) := by omega
      have k1 : (k : Int) < (n : Int) := by omega
      have i0 := hoe.1
      have i1 := hoe.2.1
      clear hoe
      have HB2 := Lib.hid (fun ob => HBEL.out.alloc HBEL.out.size ob)
      by_cases hbig : I ≤ 4611686018427387904
      rotate_left
      · have b1 : (idx == wrap64 (I + 1)) = false := by
          rw [beq_eq_false_iff_ne]
          unfold wrap64
          omega
        have b2 : (idx != wrap64 (I + 1)) = true := by rw [bne, b1]; rfl
        have hf : fol (ens xs) i t = false := HF.out (.inl (by omega))
        have HFF := Lib.hid hf
        clear hf
        go_wp2
        go_ret
        exact ⟨ret_bool HFF.out.symm, HB2.out _⟩
      by_cases h1 : idx = I + 1
      rotate_left
      · have b1 : (idx == I + 1) = false := by rw [beq_eq_false_iff_ne]; exact h1
        have b2 : (idx != I + 1) = true := by rw [bne, b1]; rfl
        have hf : fol (ens xs) i t = false := HF.out (.inl h1)
        have HFF := Lib.hid hf
        clear hf
        go_wp2
        go_ret
        exact ⟨ret_bool HFF.out.symm, HB2.out _⟩
      have H1 := Lib.hid h1
      have b1 : (idx == I + 1) = true := by rw [beq_iff_eq]; exact h1
      have b2 : (idx != I + 1) = false := by rw [bne, b1]; rfl
      clear h1
      by_cases h2 : term < T
      · have hf : fol (ens xs) i t = false := HF.out (.inr h2)
        have HFF := Lib.hid hf
        clear hf
        go_wp2
        go_ret
        exact ⟨ret_bool HFF.out.symm, HB2.out _⟩
      · have ht := Lib.hid (HA.out H1.out (by omega))
        go_wp2_with fail
        go_quiet (fail)
        go_wp2
        go_roundw
        case rel => exact ⟨k + 1, by omega, by go_num, by rw [H1.out, ← HI.out]; go_num, by rw [ht.out.2], ht.out.1, by have := HI.out; have := H1.out; omega, (HB2.out _).trans (below_still (still_drewN _ _) (HB2.out _).size)⟩
        case measure => simp [intOf]; omega
    · obtain rfl : k = n := by omega
      have hf : fol (ens xs) i t = true := by have := HFO.out; rwa [← HL.out, ← ens_len, List.take_length] at this
      have HFF := Lib.hid hf
      clear hf
      go_wp2
      go_ret
      exact ⟨ret_bool HFF.out.symm, HBEL.out⟩
end Go.Proofs.YtjadfpcipicckaaGreat.Rg

namespace Go.Proofs.YtjadfpcipicckaaGreat.Rg
open Go.RowKit Go.Proofs.YtjadfpcipicckaaGreat.Fld
set_option linter.unusedVariables false

theorem upto_succ {P : Nat → Prop} {k : Nat} (h : ∀ i, i < k → P i) (hk : P k) : ∀ i, i < k + 1 → P i := by
  intro i hi
  rcases Nat.lt_or_ge i k with h1 | h1
  · exact h i h1
  · have : i = k := by omega
    subst this
    exact hk
/-- a part of a slice, from a place on -/
theorem RdE.tail {w : World} {b off n : Nat} {xs : List EA} (h : RdE w (some ⟨b, off, none⟩) n xs) (k : Nat) (hk : k ≤ n) (cap : Nat) (hc : n ≤ cap) : RdE w (some (if cap = k then ⟨b, off, none⟩ else ⟨b, off + k * 4, none⟩)) (n - k) (xs.drop k) := by
  refine ⟨by rw [List.length_drop, h.len], by have := h.most; omega, fun hn => ?_, h.dat.drop k⟩
  obtain ⟨b', off', hA, hcell⟩ := h.at' (by omega)
  cases hA
  rw [if_neg (by omega)]
  refine ⟨b, off + k * 4, rfl, fun j v hj => ?_⟩
  rw [rowE_drop, List.getElem?_drop] at hj
  have := hcell _ _ hj
  rw [← Nat.add_assoc] at this
  exact this
/-- a slice of entries of which the entries are those -/
def Left (w : World) (l : List En) (v : Value) : Prop := ∃ A m c ys, v = .slice A m c ∧ RdE w A m ys ∧ m ≤ c ∧ c ≤ maxLen ∧ (A = none → c = 0) ∧ ens ys = l ∧ m = l.length
/-- what IndexFunc tells, of a question that each entry answers -/
def IdxIs (n : Nat) (q : Nat → Bool) (k : Int) : Prop := (k = -1 ∧ ∀ i, i < n → q i = false) ∨ ∃ j : Nat, k = j ∧ j < n ∧ q j = true ∧ ∀ i, i < j → q i = false
theorem mis_of (s : St) : ∀ (l : List En) (k : Nat), k ≤ l.length → (∀ i, i < k → hasB s (l.getD i en0).idx (l.getD i en0).term = true) → (k < l.length → hasB s (l.getD k en0).idx (l.getD k en0).term = false) → mis s l = l.drop k
  | [], k, hk, _, _ => by
    simp only [List.length_nil] at hk
    obtain rfl : k = 0 := by omega
    rfl
  | e :: r, 0, _, _, h => by
    have := h (by simp)
    simp only [List.getD_cons_zero] at this
    simp only [mis]
    rw [this]
    rfl
  | e :: r, k + 1, hk, h1, h2 => by
    have h0 := h1 0 (by omega)
    simp only [List.getD_cons_zero] at h0
    simp only [mis]
    rw [if_pos h0, List.drop_succ_cons]
    exact mis_of s r k (by simpa using hk) (fun i hi => by have := h1 (i + 1) (by omega); simpa using this) (fun hl => by have := h2 (by simpa using hl); simpa using this)
end Go.Proofs.YtjadfpcipicckaaGreat.Rg

namespace Go.Proofs.YtjadfpcipicckaaGreat.Rg
open Go.RowKit Go.Proofs.YtjadfpcipicckaaGreat.Fld
set_option linter.unusedVariables false

theorem add_at (b off j : Nat) : Addr.add (⟨b, off, none⟩ : Addr) j = ⟨b, off + j, none⟩ := by
  unfold Addr.add
  split
  · simp_all
  · rfl
/-- append of entries onto a row of a call's own -/
theorem run_append_rowE (w : World) (ty : TypeId) (lo : Nat) (v : Value) (n : Nat) (xs : List Value) (hown : w.ownsRow lo 67 4 v n xs) (A : Option Addr) (m c : Nat) (ys : List EA) (hr : RdE w A m ys) (hA : A = none → c = 0) (hb : n + m ≤ 2000000) (hlo : lo ≤ w.heap.size) :
    ∃ v' w', (Builtin.append_ #[30, 30] ty #[v, .slice A m c]).run Tryz.prog w = .ok v' w' ∧ w'.ownsRow lo 67 4 v' (n + m) (xs ++ rowE ys) ∧ w.grownBy w' v.ownBlock ∧ (v'.ownBlock = v.ownBlock ∨ v'.ownBlock = some w.heap.size) := by
  obtain ⟨inf, i1, i2, i3, i4⟩ := entry_info
  cases A with
  | none =>
    have hm : m = 0 := by
      rcases Nat.eq_zero_or_pos m with h | h
      · exact h
      · obtain ⟨b, off, he, _⟩ := hr.at' h; cases he
    subst hm
    obtain rfl : ys = [] := List.eq_nil_of_length_eq_zero hr.len
    obtain rfl := hA rfl
    refine ⟨v, w, run_append_owned_none (P := Tryz.prog) (w := w) lo 30 ty 67 inf 4 Tryz.underlying30 i1 v n xs hown, ?_, ⟨rfl, rfl, rfl, Nat.le_refl _, fun _ _ _ => rfl⟩, .inl rfl⟩
    rw [show rowE [] = [] from rfl, List.append_nil]
    exact hown
  | some ad =>
    obtain ⟨v', w', hrun, hrow, hg, _, hat⟩ := run_append_own_at (P := Tryz.prog) w lo 30 ty 67 inf _ 4 48 Tryz.underlying30 i1 i2 i3 i4 rfl (by omega) v n xs hown ad m c (rowE ys) (by rw [rowE_len, hr.len]) (by
      intro j u hu
      have hj : j < (rowE ys).length := (List.getElem?_eq_some_iff.1 hu).1
      rw [rowE_len, hr.len] at hj
      obtain ⟨b, off, he, hc⟩ := hr.at' (by omega)
      cases he
      rw [add_at]
      exact hc j u hu) (rowE_one ys) (by unfold maxLen; omega) (by omega) hlo
    exact ⟨v', w', hrun, hrow, hg, hat⟩
theorem wpList_append_rowE {w : World} {ops : Array Oper} {rest : List Oper} {o : Oper} {a : Act} {Q : Exit → Act → World → Prop} (hgd : o.guard = none) (s x : Operand)
    (ho : o.op = .call { callee := .builtin .append, args := #[s, x], argTypes := #[30, 30] })
    (lo : Nat) (v : Value) (n : Nat) (xs : List Value) (hs : a.eval s = v) (hown : w.ownsRow lo 67 4 v n xs)
    (A : Option Addr) (m c : Nat) (ys : List EA) (hx : a.eval x = .slice A m c) (hr : RdE w A m ys) (hA : A = none → c = 0) (hb : n + m ≤ 2000000) (hlo : lo ≤ w.heap.size)
    (h : ∀ v' w', w'.ownsRow lo 67 4 v' (n + m) (xs ++ rowE ys) → w.grownBy w' v.ownBlock → (v'.ownBlock = v.ownBlock ∨ v'.ownBlock = some w.heap.size) → wpList Tryz.prog ops Q rest (a.put o.dst v') w') : wpList Tryz.prog ops Q (o :: rest) a w := by
  refine wpList_plain hgd fun K hK => ?_
  obtain ⟨v', w', hrun, h1, h2, h3⟩ := run_append_rowE w o.type lo v n xs hown A m c ys hr hA hb hlo
  unfold Oper.wp execOp
  simp only [ho, resolve, invoke, builtin, Sem.run_bind, Sem.run_pure, Result.andThen_ok, List.map_toArray, List.map_cons, List.map_nil, hs, hx, hrun]
  exact hK _ _ (h v' w' h1 h2 h3)
theorem step_append_rowE {w : World} {ops : Array Oper} {o : Oper} {a : Act} {K : Act → World → Prop} {Q : Exit → Act → World → Prop} {E : Prop} (hgd : o.guard = none) (s x : Operand)
    (ho : o.op = .call { callee := .builtin .append, args := #[s, x], argTypes := #[30, 30] })
    (lo : Nat) (v : Value) (n : Nat) (xs : List Value) (hs : a.eval s = v) (hown : w.ownsRow lo 67 4 v n xs)
    (A : Option Addr) (m c : Nat) (ys : List EA) (hx : a.eval x = .slice A m c) (hr : RdE w A m ys) (hA : A = none → c = 0) (hb : n + m ≤ 2000000) (hlo : lo ≤ w.heap.size)
    (h : ∀ v' w', w'.ownsRow lo 67 4 v' (n + m) (xs ++ rowE ys) → w.grownBy w' v.ownBlock → (v'.ownBlock = v.ownBlock ∨ v'.ownBlock = some w.heap.size) → K (a.put o.dst v') w') :
    if Region.wanted o (yielded ops a.tmps) = true then Oper.wp Tryz.prog o a w K Q else E := by
  have hw : Region.wanted o (yielded ops a.tmps) = true := by simp [Region.wanted, hgd]
  rw [if_pos hw]
  obtain ⟨v', w', hrun, h1, h2, h3⟩ := run_append_rowE w o.type lo v n xs hown A m c ys hr hA hb hlo
  unfold Oper.wp execOp
  simp only [ho, resolve, invoke, builtin, Sem.run_bind, Sem.run_pure, Result.andThen_ok, List.map_toArray, List.map_cons, List.map_nil, hs, hx, hrun]
  exact h v' w' h1 h2 h3

/-! ### bytes.Clone, slices.Clone -/
theorem clone8_any (A : Option Addr) (n cap : Nat) (zs : List Int) (w : World) (hr : Rd w A n zs) (hA : A = none → cap = 0) (hn : n ≤ 140737488355328) : Calls Tryz.prog 47 #[.slice A n cap] w fun e w' => ∃ v, e = .returned v ∧ Own w w' v zs := by
  have q := fun (w : World) (a : Option Addr) (l c : Nat) => run_eql_slice_nil (P := Tryz.prog) w 27 5 a l c Tryz.underlying27
  cases A with
  | none =>
    have hn0 : n = 0 := by
      rcases Nat.eq_zero_or_pos n with h0 | h0
      · exact h0
      · obtain ⟨b, off, he, _⟩ := hr.2.2.2 h0; cases he
    subst hn0
    obtain rfl : zs = [] := List.eq_nil_of_length_eq_zero hr.1
    obtain rfl := hA rfl
    clear hr hA
    go_enter Tryz.func47, Tryz.ntmps47
    go_wp2
    go_ret
    exact ⟨_, rfl, Own.nil w w (Below.refl _ _)⟩
  | some a =>
    have HR := Lib.hid hr
    have HA := Lib.hid hA
    have HO := Lib.hid (Own.made w w (Below.refl _ _))
    have HR1 := Lib.hid (HR.out.below HO.out.1)
    unfold noneBlk at HO HR1
    clear hr hA
    go_enter Tryz.func47, Tryz.ntmps47
    go_wp2_with (refine wpList_append_rd rfl _ _ rfl w _ [] rfl HO.out (some a) n cap zs rfl HA.out HR1.out (by simp; omega) ?_)
    intro v1 w1 hO1 _ _
    have HO2 := Lib.hid hO1
    clear hO1
    go_wp2
    go_ret
    exact ⟨_, rfl, HO2.out⟩
theorem row_made (w : World) (lo : Nat) (hlo : lo ≤ w.heap.size) : (w.alloc (.cells #[] 67)).ownsRow lo 67 4 (.slice (some ⟨w.heap.size, 0, none⟩) 0 0) 0 [] :=
  ⟨by simp, .inr ⟨w.heap.size, 0, #[], rfl, hlo, heap_alloc_new w _, Nat.le_refl _, by unfold maxLen; omega, rfl, rfl⟩⟩
def ClE (w : World) (n : Nat) (xs : List EA) (e : Ending) (w' : World) : Prop := ∃ v, e = .returned v ∧ w'.ownsRow w.heap.size 67 4 v n (rowE xs) ∧ Below w.heap.size w w'
theorem cloneE_any (A : Option Addr) (n cap : Nat) (xs : List EA) (w : World) (hr : RdE w A n xs) (hA : A = none → cap = 0) (hn : n ≤ 1000000) : Calls Tryz.prog 81 #[.slice A n cap] w (ClE w n xs) := by
  have q := fun (w : World) (a : Option Addr) (l c : Nat) => run_eql_slice_nil (P := Tryz.prog) w 30 67 a l c Tryz.underlying30
  cases A with
  | none =>
    have hn0 : n = 0 := by
      rcases Nat.eq_zero_or_pos n with h0 | h0
      · exact h0
      · obtain ⟨b, off, he, _⟩ := hr.at' h0; cases he
    subst hn0
    obtain rfl : xs = [] := List.eq_nil_of_length_eq_zero hr.len
    obtain rfl := hA rfl
    clear hr hA
    go_enter Tryz.func81, Tryz.ntmps81
    go_wp2
    go_ret
    exact ⟨_, rfl, row_nil _ _ _ _, Below.refl _ _⟩
  | some a =>
    have HA := Lib.hid hA
    have HO := Lib.hid (row_made w w.heap.size (Nat.le_refl _))
    have HB := Lib.hid (alloc_below' w (.cells #[] 67))
    have HR1 := Lib.hid (hr.below HB.out)
    clear hr hA
    go_enter Tryz.func81, Tryz.ntmps81
    go_wp2_with (refine wpList_append_rowE rfl _ _ rfl w.heap.size _ 0 [] rfl HO.out (some a) n cap xs rfl HR1.out HA.out (by omega) HB.out.size ?_)
    intro v1 w1 hO1 hg1 _
    have HO2 := Lib.hid hO1
    have HG := Lib.hid hg1
    clear hO1 hg1
    go_wp2
    go_ret
    exact ⟨_, rfl, HO2.out, HB.out.grown HG.out HB.out.size (fun i hi => by cases hi; exact Nat.le_refl _)⟩

/-! ### copied -/
theorem rowE_set (ys : List EA) (x : EA) (r : List EA) (k : Nat) (hk : ys.length = k) (A : Option Addr) (c : Nat) : (rowE (ys ++ x :: r)).set (k * 4 + 3) (.slice A x.e.data.length c) = rowE (ys ++ [⟨x.e, A, c⟩] ++ r) := by
  subst hk
  rw [rowE_append, rowE_append, rowE_append, List.append_assoc, List.set_append_right _ _ (by rw [rowE_len]; omega), rowE_len, Nat.add_sub_cancel_left]
  rfl
def Cpd (w : World) (n : Nat) (xs : List En) (e : Ending) (w' : World) : Prop := ∃ v ys, e = .returned v ∧ ens ys = xs ∧ w'.ownsRow w.heap.size 67 4 v n (rowE ys) ∧ DatO w.heap.size w' ys ∧ Below w.heap.size w w'
set_option maxRecDepth 100000 in
set_option maxHeartbeats 1600000 in
theorem copied_any (A : Option Addr) (n cap : Nat) (xs : List EA) (w : World) (hr : RdE w A n xs) (hA : A = none → cap = 0) (hn : n ≤ 1000000) (hd : ∀ x ∈ xs, x.e.data.length ≤ 140737488351232) : Calls Tryz.prog 45 #[.slice A n cap] w (Cpd w n (ens xs)) := by
  have HC := Lib.hid (cloneE_any A n cap xs w hr hA hn)
  have HL := Lib.hid hr.len
  have HD := Lib.hid hr.dat
  have HDL := Lib.hid hd
  clear hr hA hd
  go_enter Tryz.func45, Tryz.ntmps45
  go_wp2_with fail
  refine HC.out.mono ?_
  rintro e w1 ⟨v, rfl, hrow, hbel⟩
  obtain ⟨VA, vc, rfl, hform, hle, hcm, hnil⟩ := row_slice hrow
  unfold maxLen at hcm
  have HB1 := Lib.hid hbel
  have HR1 := Lib.hid hrow
  have HNIL := Lib.hid hnil
  have HF := Lib.hid hform
  clear hrow hbel hnil hform
  go_wp2_with fail
  go_loopw [9] (fun i wr => ∃ (k : Nat) (ys : List EA), k ≤ n ∧ i = .int .i64 k ∧ ys.length = k ∧ ens ys = (ens xs).take k ∧ wr.ownsRow w.heap.size 67 4 (.slice VA n vc) n (rowE (ys ++ xs.drop k)) ∧ DatO w.heap.size wr ys ∧ Below w.heap.size w wr) (fun i _ => n - (intOf i).toNat)
  case atStart => exact ⟨0, [], Nat.zero_le _, rfl, rfl, rfl, HR1.out, DatO.nil _ _, HB1.out⟩
  case round =>
    obtain ⟨k, ys, hk, rfl, hyl, hye, hrow, hdat, hbel⟩ := hrel
    have HYL := Lib.hid hyl
    have HYE := Lib.hid hye
    have HROW := Lib.hid hrow
    have HDAT := Lib.hid hdat
    have HBEL := Lib.hid hbel
    clear hyl hye hrow hdat hbel
    by_cases hlt : k < n
    · have hkx : k < xs.length := by have := HL.out; omega
      obtain ⟨g, rfl⟩ : ∃ g, VA = some ⟨g, 0, none⟩ := by
        cases VA with
        | none => have := (HNIL.out rfl).2; omega
        | some a =>
          obtain ⟨h1, h2⟩ := HF.out a rfl
          obtain ⟨b, off, sp⟩ := a
          simp only at h1 h2
          subst h1 h2
          exact ⟨b, rfl⟩
      have HX := Lib.hid (show xs.drop k = xs.getD k ea0 :: xs.drop (k + 1) by
        rw [List.drop_eq_getElem_cons hkx, List.getD_eq_getElem?_getD, List.getElem?_eq_getElem hkx]; rfl)
      have HMEM := Lib.hid (show xs.getD k ea0 ∈ xs by rw [List.getD_eq_getElem?_getD, List.getElem?_eq_getElem hkx]; exact List.getElem_mem _)
      have HTK := Lib.hid (show (ens xs).take (k + 1) = (ens xs).take k ++ [(xs.getD k ea0).e] by
        rw [List.take_add_one, List.getElem?_eq_getElem (by rw [ens_len]; exact hkx), List.getD_eq_getElem?_getD, List.getElem?_eq_getElem hkx]; simp [ens])
      generalize xs.getD k ea0 = x at *
      obtain ⟨e, XA, xc⟩ := x
      have HRD := Lib.hid (HD.out _ HMEM.out)
      have HLE := Lib.hid (HDL.out _ HMEM.out)
      simp only at HRD HLE HTK
      have HROW2 := Lib.hid (show wr.ownsRow w.heap.size 67 4 (.slice (some ⟨g, 0, none⟩) n vc) n (rowE (ys ++ ⟨e, XA, xc⟩ :: xs.drop (k + 1))) by rw [← HX.out]; exact HROW.out)
      have hcell : (rowE (ys ++ (⟨e, XA, xc⟩ : EA) :: xs.drop (k + 1)))[k * 4 + 3]? = some (.slice XA e.data.length xc) := by
        rw [rowE_at _ k 3 (by rw [List.length_append, HYL.out]; simp) (by omega), List.getD_eq_getElem?_getD, List.getElem?_append_right (by rw [HYL.out]; exact Nat.le_refl _), HYL.out]
        simp [EA.cells]
      obtain ⟨c3, f3⟩ := row_cells HROW2.out _ _ hcell
      have HCELL := Lib.hid hcell
      clear hcell
      have HCL := Lib.hid (clone8_any XA e.data.length xc e.data wr (HRD.out.1.of_same (fun a c hc => HBEL.out.cell (lt_of_cell hc))) HRD.out.2 (by have := HLE.out; omega))
      have k0 : (0 : Int) ≤ (k : Int) := by omega
      have k1 : (k : Int) < (n : Int) := by omega
      obtain ⟨D, hD⟩ : ∃ D, e.data.length = D := ⟨_, rfl⟩
      have HDD := Lib.hid hD
      rw [hD] at c3 HCL
      clear hD
      go_wp2_with fail
      refine HCL.out.mono ?_
      rintro e2 w2 ⟨v2, rfl, hO⟩
      obtain ⟨A2, c2, rfl, hs2, _⟩ := hO.sl D HDD.out
      have HR2 := Lib.hid (row_of HROW2.out (fun i hi => hO.1.block i (row_lo HROW2.out i hi).2))
      have HD2 := Lib.hid (HDAT.out.below hO.1)
      have HN2 := Lib.hid (show DatO w.heap.size w2 [⟨e, A2, c2⟩] by
        intro x hx
        simp only [List.mem_singleton] at hx
        subst hx
        refine ⟨hO.2.1, ?_⟩
        simp only
        have := hO.2.2
        rw [HDD.out] at this ⊢
        exact row_lower this HBEL.out.size)
      have HB2 := Lib.hid (HBEL.out.trans (hO.1.mono HBEL.out.size))
      obtain ⟨c3', f3'⟩ := row_cells HR2.out _ _ HCELL.out
      clear hO hs2 c3 f3
      go_wp2
      go_roundw
      case rel =>
        have hset := row_set HR2.out (k * 4 + 3) (.slice A2 D c2)
        have hlo := row_lo HR2.out g rfl
        have hne : ∀ x ∈ ys ++ [(⟨e, A2, c2⟩ : EA)], ∀ i, (Value.slice x.A x.e.data.length x.cap).ownBlock = some i → (w2.setCell ⟨g, k * 4 + 3, none⟩ (.slice A2 D c2)).heap[i]? = w2.heap[i]? := fun x hx i hi =>
          Below.heap_setCell _ _ _ _ (fun h => rows_ne ((HD2.out.append HN2.out) x hx).2 HR2.out (by decide) i hi (by rw [h]; rfl))
        refine ⟨k + 1, ys ++ [⟨e, A2, c2⟩], by omega, by go_num, by rw [List.length_append, HYL.out]; rfl, by rw [ens_append, HYE.out, HTK.out]; rfl, ?_, (HD2.out.append HN2.out).of hne, HB2.out.setCell hlo.1 _⟩
        have := rowE_set ys ⟨e, XA, xc⟩ (xs.drop (k + 1)) k HYL.out A2 c2
        simp only at this
        rw [HDD.out] at this
        rw [← this]
        exact hset
      case measure => simp [intOf]; omega
    · obtain rfl : k = n := by omega
      go_wp2
      go_ret
      have hdr : xs.drop k = [] := List.drop_eq_nil_of_le (by rw [HL.out]; exact Nat.le_refl _)
      have hrw := HROW.out
      rw [hdr, List.append_nil] at hrw
      exact ⟨_, ys, rfl, by rw [HYE.out, ← HL.out, ← ens_len, List.take_length], hrw, HDAT.out, HBEL.out⟩
end Go.Proofs.YtjadfpcipicckaaGreat.Rg
