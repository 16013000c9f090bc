/-
  The plain mathematics of layer 8: entries, what a log is, and what each step makes of it. No condition but those that each theorem states.
-/
import Derived.Test.YtnhcbampojpgfaaGreatFieldMath
namespace Go.Proofs.YtnhcbampojpgfaaGreat.Rg
open Go.Proofs.YtnhcbampojpgfaaGreat.Fld
set_option linter.unusedVariables false

structure En where
  idx : Int
  term : Int
  kind : Int
  data : List Int
def en0 : En := ⟨0, 0, 0, []⟩
def okE (e : En) : Bool := decide (1 ≤ e.idx) && decide (e.idx ≤ 1099511627776) && decide (0 ≤ e.term) && decide (e.term ≤ 1099511627776) && decide (0 ≤ e.kind) && decide (e.kind ≤ 7) && decide (e.data.length ≤ 4096)
theorem okE_iff (e : En) : okE e = true ↔ 1 ≤ e.idx ∧ e.idx ≤ 1099511627776 ∧ 0 ≤ e.term ∧ e.term ≤ 1099511627776 ∧ 0 ≤ e.kind ∧ e.kind ≤ 7 ∧ e.data.length ≤ 4096 := by
  unfold okE; simp [and_assoc]
def okL (l : List En) : Bool := l.all okE
def fol : List En → Int → Int → Bool
  | [], _, _ => true
  | e :: r, i, t => decide (e.idx = i + 1) && decide (t ≤ e.term) && fol r e.idx e.term
def lastT (t : Int) : List En → Int
  | [] => t
  | e :: r => lastT e.term r
theorem okL_append (a b : List En) : okL (a ++ b) = (okL a && okL b) := by simp [okL]
theorem okL_mem {l : List En} (h : okL l = true) {e : En} (he : e ∈ l) : okE e = true := by
  unfold okL at h; rw [List.all_eq_true] at h; exact h e he
theorem okL_take {l : List En} (h : okL l = true) (k : Nat) : okL (l.take k) = true := by
  unfold okL at *; rw [List.all_eq_true] at *; exact fun e he => h e (List.mem_of_mem_take he)
theorem okL_drop {l : List En} (h : okL l = true) (k : Nat) : okL (l.drop k) = true := by
  unfold okL at *; rw [List.all_eq_true] at *; exact fun e he => h e (List.mem_of_mem_drop he)
theorem fol_cons (e : En) (r : List En) (i t : Int) : fol (e :: r) i t = true ↔ e.idx = i + 1 ∧ t ≤ e.term ∧ fol r (i + 1) e.term = true := by
  constructor
  · intro h
    simp only [fol, Bool.and_eq_true, decide_eq_true_eq] at h
    obtain ⟨⟨h1, h2⟩, h3⟩ := h
    exact ⟨h1, h2, by rw [← h1]; exact h3⟩
  · rintro ⟨h1, h2, h3⟩
    simp only [fol, Bool.and_eq_true, decide_eq_true_eq]
    exact ⟨⟨h1, h2⟩, by rw [h1]; exact h3⟩
theorem fol_append : ∀ (a b : List En) (i t : Int), fol (a ++ b) i t = true ↔ fol a i t = true ∧ fol b (i + a.length) (lastT t a) = true
  | [], b, i, t => by simp [fol, lastT]
  | e :: r, b, i, t => by
    rw [List.cons_append, fol_cons, fol_cons, fol_append r b (i + 1) e.term, show i + 1 + (r.length : Int) = i + ((e :: r).length : Nat) by simp; omega]
    simp only [lastT]
    constructor
    · rintro ⟨h1, h2, h3, h4⟩; exact ⟨⟨h1, h2, h3⟩, h4⟩
    · rintro ⟨⟨h1, h2, h3⟩, h4⟩; exact ⟨h1, h2, h3, h4⟩
theorem fol_at : ∀ {l : List En} {i t : Int}, fol l i t = true → ∀ k, k < l.length → (l.getD k en0).idx = i + 1 + k ∧ t ≤ (l.getD k en0).term
  | [], _, _, _, k, hk => by simp at hk
  | e :: r, i, t, h, k, hk => by
    rw [fol_cons] at h
    obtain ⟨h1, h2, h3⟩ := h
    cases k with
    | zero => simp only [List.getD_cons_zero]; exact ⟨by omega, h2⟩
    | succ k =>
      simp only [List.getD_cons_succ]
      obtain ⟨g1, g2⟩ := fol_at h3 k (by simpa using hk)
      exact ⟨by omega, by omega⟩
theorem fol_mono : ∀ {l : List En} {i t : Int}, fol l i t = true → ∀ j k, j ≤ k → k < l.length → (l.getD j en0).term ≤ (l.getD k en0).term
  | [], _, _, _, j, k, _, hk => by simp at hk
  | e :: r, i, t, h, j, k, hjk, hk => by
    rw [fol_cons] at h
    obtain ⟨h1, h2, h3⟩ := h
    cases k with
    | zero =>
      obtain rfl : j = 0 := by omega
      exact Int.le_refl _
    | succ k =>
      cases j with
      | zero =>
        simp only [List.getD_cons_zero, List.getD_cons_succ]
        exact (fol_at h3 k (by simpa using hk)).2
      | succ j =>
        simp only [List.getD_cons_succ]
        exact fol_mono h3 j k (by omega) (by simpa using hk)
theorem lastT_eq : ∀ (l : List En) (t : Int), lastT t l = if l.length = 0 then t else (l.getD (l.length - 1) en0).term
  | [], t => rfl
  | [e], t => rfl
  | e :: x :: r, t => by
    have := lastT_eq (x :: r) e.term
    simp only [lastT] at this ⊢
    rw [this]
    simp
theorem fol_take {l : List En} {i t : Int} (h : fol l i t = true) (k : Nat) : fol (l.take k) i t = true := by
  rw [← List.take_append_drop k l, fol_append] at h
  exact h.1
theorem fol_drop {l : List En} {i t : Int} (h : fol l i t = true) (k : Nat) (hk : k ≤ l.length) : fol (l.drop k) (i + k) (lastT t (l.take k)) = true := by
  rw [← List.take_append_drop k l, fol_append] at h
  have := h.2
  rw [List.length_take, Nat.min_eq_left hk] at this
  exact this
theorem lastT_take {l : List En} {t : Int} (k : Nat) (h0 : 0 < k) (hk : k ≤ l.length) : lastT t (l.take k) = (l.getD (k - 1) en0).term := by
  rw [lastT_eq, List.length_take, Nat.min_eq_left hk, if_neg (by omega), List.getD_eq_getElem?_getD, List.getElem?_take, if_pos (by omega), ← List.getD_eq_getElem?_getD]
theorem fol_low {l : List En} {i t t' : Int} (h : fol l i t = true) (ht : t' ≤ t) : fol l i t' = true := by
  cases l with
  | nil => rfl
  | cons e r => rw [fol_cons] at *; exact ⟨h.1, by omega, h.2.2⟩

/-! ### a log -/
structure St where
  base : Int
  bt : Int
  es : List En
  com : Int
  app : Int
def St.last (s : St) : Int := s.base + s.es.length
def St.lt (s : St) : Int := lastT s.bt s.es
structure St.Ok (s : St) : Prop where
  b0 : 0 ≤ s.base
  bl : s.last ≤ 1099511627776
  t0 : 0 ≤ s.bt
  t1 : s.bt ≤ 1099511627776
  ba : s.base ≤ s.app
  ac : s.app ≤ s.com
  cl : s.com ≤ s.last
  ok : okL s.es = true
  fo : fol s.es s.base s.bt = true
def okN (n : Int) : Bool := decide (0 ≤ n) && decide (n ≤ 1099511627776)
def st0 (b t : Int) : St := ⟨b, t, [], b, b⟩
theorem st0_ok {b t : Int} (hb : okN b = true) (ht : okN t = true) : (st0 b t).Ok := by
  simp [okN] at hb ht
  refine ⟨hb.1, ?_, ht.1, ht.2, Int.le_refl _, Int.le_refl _, ?_, rfl, rfl⟩
  · simp [St.last, st0]; omega
  · simp [St.last, st0]
def termB (s : St) (i : Int) : Bool := decide (s.base ≤ i) && decide (i ≤ s.last)
def entT (s : St) (k : Nat) : Int := if k = 0 then s.bt else (s.es.getD (k - 1) en0).term
def termV (s : St) (i : Int) : Int := if termB s i = true then entT s (i - s.base).toNat else 0
def hasB (s : St) (i t : Int) : Bool := termB s i && (termV s i == t)
theorem termB_iff (s : St) (i : Int) : termB s i = true ↔ s.base ≤ i ∧ i ≤ s.last := by simp [termB]
theorem hasB_iff (s : St) (i t : Int) : hasB s i t = true ↔ s.base ≤ i ∧ i ≤ s.last ∧ entT s (i - s.base).toNat = t := by
  unfold hasB
  rw [Bool.and_eq_true, beq_iff_eq]
  constructor
  · rintro ⟨h1, h2⟩
    unfold termV at h2
    rw [if_pos h1] at h2
    rw [termB_iff] at h1
    exact ⟨h1.1, h1.2, h2⟩
  · rintro ⟨h1, h2, h3⟩
    have hb : termB s i = true := (termB_iff s i).2 ⟨h1, h2⟩
    exact ⟨hb, by unfold termV; rw [if_pos hb]; exact h3⟩
theorem lt_eq (s : St) : s.lt = entT s s.es.length := by
  unfold St.lt entT
  rw [lastT_eq]
theorem termV_last (s : St) : termB s s.last = true ∧ termV s s.last = s.lt := by
  have hb : termB s s.last = true := (termB_iff s _).2 ⟨by unfold St.last; omega, Int.le_refl _⟩
  refine ⟨hb, ?_⟩
  unfold termV
  rw [if_pos hb, lt_eq, show (s.last - s.base).toNat = s.es.length by unfold St.last; omega]
theorem entT_mono {s : St} (h : s.Ok) (j k : Nat) (hjk : j ≤ k) (hk : k ≤ s.es.length) : entT s j ≤ entT s k := by
  unfold entT
  by_cases h0 : j = 0
  · rw [if_pos h0]
    by_cases h1 : k = 0
    · rw [if_pos h1]; exact Int.le_refl _
    · rw [if_neg h1]; exact (fol_at h.fo (k - 1) (by omega)).2
  · rw [if_neg h0, if_neg (by omega)]
    exact fol_mono h.fo _ _ (by omega) (by omega)
/-- the entries that are told from one on -/
def getE (s : St) (from_ most : Int) : List En := if from_ < s.base + 1 ∨ s.last < from_ ∨ most < 1 then [] else (s.es.drop (from_ - s.base - 1).toNat).take most.toNat

/-! ### Add -/
def addC (s : St) (l : List En) : Int := if okL l = true then (if fol l s.last s.lt = true then 0 else 7) else 1
def stAdd (s : St) (l : List En) : St := if okL l = true ∧ fol l s.last s.lt = true then { s with es := s.es ++ l } else s
theorem len_le {l : List En} {i t : Int} (ho : okL l = true) (hf : fol l i t = true) (hi : i ≤ 1099511627776) : i + l.length ≤ 1099511627776 := by
  rcases Nat.eq_zero_or_pos l.length with h | h
  · omega
  · have h1 := (fol_at hf (l.length - 1) (by omega)).1
    have h2 := (okE_iff _).1 (okL_mem ho (e := l.getD (l.length - 1) en0) (by rw [List.getD_eq_getElem?_getD, List.getElem?_eq_getElem (by omega)]; exact List.getElem_mem _))
    omega
theorem stAdd_ok {s : St} (h : s.Ok) (l : List En) : (stAdd s l).Ok := by
  unfold stAdd
  split
  · next hc =>
    obtain ⟨h1, h2⟩ := hc
    have hl := len_le h1 h2 h.bl
    refine ⟨h.b0, ?_, h.t0, h.t1, h.ba, h.ac, ?_, ?_, ?_⟩
    · simp only [St.last, List.length_append] at *; omega
    · have := h.cl; simp only [St.last, List.length_append] at *; omega
    · show okL (s.es ++ l) = true
      rw [okL_append, h.ok, h1]; rfl
    · show fol (s.es ++ l) s.base s.bt = true
      rw [fol_append]; exact ⟨h.fo, h2⟩
  · exact h

/-! ### Merge -/
def mis (s : St) : List En → List En
  | [] => []
  | e :: r => if hasB s e.idx e.term = true then mis s r else e :: r
def skp (b : Int) : List En → List En
  | [] => []
  | e :: r => if e.idx ≤ b then skp b r else e :: r
def repl (s : St) (e : En) (r : List En) : St := { s with es := s.es.take (e.idx - 1 - s.base).toNat ++ (e :: r) }
def mrgL (s : St) : List En → Int × Int × St
  | [] => (0, 0, s)
  | e :: r => if e.idx ≤ s.com then (0, 9, s) else (e.idx, 0, repl s e r)
def mrgA (s : St) (i t : Int) (l : List En) : Int × Int × St := if hasB s i t = true then mrgL s (mis s l) else (0, 7, s)
def mrgB (s : St) : List En → Int × Int × St
  | [] => (0, 0, s)
  | e :: r => if e.term < s.bt then (0, 7, s) else mrgA s s.base s.bt (e :: r)
def mrg (s : St) (i t : Int) (l : List En) : Int × Int × St :=
  if okL l = true ∧ fol l i t = true then (if i < s.base then mrgB s (skp s.base l) else mrgA s i t l) else (0, 1, s)
/-- what is left of a list that follows, of which the log has those ahead -/
theorem mis_drop (s : St) : ∀ (l : List En) (i t : Int), fol l i t = true → hasB s i t = true → ∃ k, k ≤ l.length ∧ mis s l = l.drop k ∧ (∀ j, j < k → hasB s (l.getD j en0).idx (l.getD j en0).term = true) ∧ (k < l.length → hasB s (l.getD k en0).idx (l.getD k en0).term = false) ∧ hasB s (i + k) (lastT t (l.take k)) = true
  | [], i, t, _, hh => ⟨0, Nat.le_refl _, rfl, (fun j hj => by omega), (fun h => by simp at h), by simpa [lastT] using hh⟩
  | e :: r, i, t, h, hh => by
    rw [fol_cons] at h
    obtain ⟨h1, h2, h3⟩ := h
    by_cases he : hasB s e.idx e.term = true
    · obtain ⟨k, k1, k2, k3, k4, k5⟩ := mis_drop s r (i + 1) e.term h3 (by rw [← h1]; exact he)
      refine ⟨k + 1, by simp; omega, by simp only [mis]; rw [if_pos he, k2]; rfl, ?_, ?_, ?_⟩
      · intro j hj
        cases j with
        | zero => simpa using he
        | succ j => simpa using k3 j (by omega)
      · intro hk
        simpa using k4 (by simpa using hk)
      · rw [List.take_succ_cons]
        simp only [lastT]
        rw [show i + ((k + 1 : Nat) : Int) = i + 1 + (k : Int) by omega]
        exact k5
    · refine ⟨0, Nat.zero_le _, by simp only [mis]; rw [if_neg he]; rfl, (fun j hj => by omega), (fun _ => by simpa using he), by simpa [lastT] using hh⟩
theorem skp_drop (b : Int) : ∀ (l : List En) (i t : Int), fol l i t = true → i < b → ∃ k, k ≤ l.length ∧ skp b l = l.drop k ∧ (k < l.length → i + k = b)
  | [], i, t, _, _ => ⟨0, Nat.le_refl _, rfl, fun h => by simp at h⟩
  | e :: r, i, t, h, hi => by
    rw [fol_cons] at h
    obtain ⟨h1, h2, h3⟩ := h
    have hle : e.idx ≤ b := by omega
    by_cases hb : i + 1 < b
    · obtain ⟨k, k1, k2, k3⟩ := skp_drop b r (i + 1) e.term h3 hb
      exact ⟨k + 1, by simp; omega, by simp only [skp]; rw [if_pos hle, k2]; rfl, fun hk => by have := k3 (by simpa using hk); omega⟩
    · refine ⟨1, by simp, ?_, fun _ => by omega⟩
      simp only [skp]
      rw [if_pos hle]
      cases r with
      | nil => rfl
      | cons x r =>
        rw [fol_cons] at h3
        simp only [skp]
        rw [if_neg (by omega)]
        rfl
theorem skp_fol {s : St} {l : List En} {i t : Int} (h : fol l i t = true) (hi : i < s.base) {e : En} {r : List En} (hs : skp s.base l = e :: r) (ht : ¬ e.term < s.bt) : fol (e :: r) s.base s.bt = true := by
  obtain ⟨k, k1, k2, k3⟩ := skp_drop s.base l i t h hi
  rw [hs] at k2
  have hk : k < l.length := by
    rcases Nat.lt_or_ge k l.length with h | h
    · exact h
    · rw [List.drop_eq_nil_of_le h] at k2; cases k2
  have := fol_drop h k k1
  rw [← k2, k3 hk] at this
  rw [fol_cons] at this ⊢
  exact ⟨this.1, by omega, this.2.2⟩
theorem repl_facts {s : St} (h : s.Ok) {l : List En} {i t : Int} (ho : okL l = true) (hf : fol l i t = true) (hh : hasB s i t = true) {e : En} {r : List En} (hm : mis s l = e :: r) :
    s.base + 1 ≤ e.idx ∧ e.idx ≤ s.last + 1 ∧ hasB s e.idx e.term = false ∧ hasB s (e.idx - 1) (entT s (e.idx - 1 - s.base).toNat) = true ∧ entT s (e.idx - 1 - s.base).toNat ≤ e.term ∧ okL (e :: r) = true ∧ fol (e :: r) (e.idx - 1) (entT s (e.idx - 1 - s.base).toNat) = true := by
  obtain ⟨k, k1, k2, k3, k4, k5⟩ := mis_drop s l i t hf hh
  rw [hm] at k2
  have hk : k < l.length := by
    rcases Nat.lt_or_ge k l.length with h | h
    · exact h
    · rw [List.drop_eq_nil_of_le h] at k2; cases k2
  have he : l.getD k en0 = e := by
    rw [List.drop_eq_getElem_cons hk] at k2
    injection k2 with k2 _
    rw [List.getD_eq_getElem?_getD, List.getElem?_eq_getElem hk]
    exact k2.symm
  have h4 := k4 hk
  rw [he] at h4
  have hfd := fol_drop hf k k1
  rw [← k2] at hfd
  have hod := okL_drop ho k
  rw [← k2] at hod
  obtain ⟨g1, g2, g3⟩ := (hasB_iff _ _ _).1 k5
  have hi : e.idx = i + k + 1 := ((fol_cons _ _ _ _).1 hfd).1
  have ht := ((fol_cons _ _ _ _).1 hfd).2.1
  rw [show e.idx - 1 = i + k by omega]
  rw [g3]
  exact ⟨by omega, by omega, h4, k5, ht, hod, hfd⟩
theorem repl_ok {s : St} (h : s.Ok) {l : List En} {i t : Int} (ho : okL l = true) (hf : fol l i t = true) (hh : hasB s i t = true) {e : En} {r : List En} (hm : mis s l = e :: r) (hc : ¬ e.idx ≤ s.com) : (repl s e r).Ok := by
  obtain ⟨a1, a2, a3, a4, a5, a6, a7⟩ := repl_facts h ho hf hh hm
  have hb0 := h.b0
  have hba := h.ba
  have hac := h.ac
  have hcl := h.cl
  obtain ⟨n, hn⟩ : ∃ n : Nat, e.idx = s.base + 1 + n := ⟨(e.idx - s.base - 1).toNat, by omega⟩
  have hN : (e.idx - 1 - s.base).toNat = n := by omega
  have hnl : n ≤ s.es.length := by unfold St.last at a2; omega
  have htl : (s.es.take n).length = n := by rw [List.length_take, Nat.min_eq_left hnl]
  have hlt : lastT s.bt (s.es.take n) = entT s n := by
    unfold entT
    by_cases h0 : n = 0
    · subst h0; rfl
    · rw [if_neg h0, lastT_take n (by omega) hnl]
  rw [hN] at a5 a7
  have hll := len_le a6 a7 (by have := (okE_iff _).1 (okL_mem a6 (e := e) (by simp)); omega)
  unfold repl
  rw [hN]
  refine ⟨hb0, ?_, h.t0, h.t1, hba, hac, ?_, ?_, ?_⟩
  · simp only [St.last, List.length_append, htl] at *; omega
  · simp only [St.last, List.length_append, htl, List.length_cons] at *; omega
  · show okL (s.es.take n ++ (e :: r)) = true
    rw [okL_append, okL_take h.ok, a6]; rfl
  · show fol (s.es.take n ++ (e :: r)) s.base s.bt = true
    rw [fol_append, htl, hlt]
    refine ⟨fol_take h.fo n, ?_⟩
    rw [show s.base + (n : Int) = e.idx - 1 by omega]
    exact a7
theorem mrgA_ok {s : St} (h : s.Ok) {l : List En} {i t : Int} (ho : okL l = true) (hf : fol l i t = true) : (mrgA s i t l).2.2.Ok := by
  unfold mrgA
  split
  · next hh =>
    cases hm : mis s l with
    | nil => exact h
    | cons e r =>
      simp only [mrgL]
      split
      · exact h
      · next hc => exact repl_ok h ho hf hh hm hc
  · exact h
theorem skp_okL (b : Int) : ∀ {l : List En}, okL l = true → okL (skp b l) = true
  | [], _ => rfl
  | e :: r, h => by
    simp only [skp]
    split
    · exact skp_okL b (l := r) (by unfold okL at *; simp only [List.all_cons, Bool.and_eq_true] at h; exact h.2)
    · exact h
theorem mrg_ok {s : St} (h : s.Ok) (l : List En) (i t : Int) : (mrg s i t l).2.2.Ok := by
  unfold mrg
  split
  · next hc =>
    obtain ⟨h1, h2⟩ := hc
    split
    · next hi =>
      cases hs : skp s.base l with
      | nil => exact h
      | cons e r =>
        simp only [mrgB]
        split
        · exact h
        · next ht => exact mrgA_ok h (by rw [← hs]; exact skp_okL _ h1) (skp_fol h2 hi hs ht)
    · exact mrgA_ok h h1 h2
  · exact h

/-! ### Commit, Apply, Compact, Reset -/
def comC (s : St) (i : Int) : Int := if s.com ≤ i ∧ i ≤ s.last then 0 else 7
def stCom (s : St) (i : Int) : St := if s.com ≤ i ∧ i ≤ s.last then { s with com := i } else s
def appC (s : St) (i : Int) : Int := if s.app ≤ i ∧ i ≤ s.com then 0 else 7
def stApp (s : St) (i : Int) : St := if s.app ≤ i ∧ i ≤ s.com then { s with app := i } else s
def cptC (s : St) (i : Int) : Int := if s.base ≤ i ∧ i ≤ s.app then 0 else 7
def stCpt (s : St) (i : Int) : St := if s.base ≤ i ∧ i ≤ s.app then { s with base := i, bt := entT s (i - s.base).toNat, es := s.es.drop (i - s.base).toNat } else s
def rstC (s : St) (i t : Int) : Int := if okN i = true ∧ okN t = true then (if s.com ≤ i then 0 else 7) else 1
def stRst (s : St) (i t : Int) : St := if okN i = true ∧ okN t = true ∧ s.com ≤ i then st0 i t else s
theorem stCom_ok {s : St} (h : s.Ok) (i : Int) : (stCom s i).Ok := by
  unfold stCom
  split
  · next hc => exact ⟨h.b0, h.bl, h.t0, h.t1, h.ba, (by have := h.ac; exact Int.le_trans this hc.1), hc.2, h.ok, h.fo⟩
  · exact h
theorem stApp_ok {s : St} (h : s.Ok) (i : Int) : (stApp s i).Ok := by
  unfold stApp
  split
  · next hc => exact ⟨h.b0, h.bl, h.t0, h.t1, (by have := h.ba; exact Int.le_trans this hc.1), hc.2, h.cl, h.ok, h.fo⟩
  · exact h
theorem entT_bd {s : St} (h : s.Ok) (k : Nat) (hk : k ≤ s.es.length) : 0 ≤ entT s k ∧ entT s k ≤ 1099511627776 := by
  unfold entT
  split
  · exact ⟨h.t0, h.t1⟩
  · have := (okE_iff _).1 (okL_mem h.ok (e := s.es.getD (k - 1) en0) (by rw [List.getD_eq_getElem?_getD, List.getElem?_eq_getElem (by omega)]; exact List.getElem_mem _))
    omega
theorem stCpt_ok {s : St} (h : s.Ok) (i : Int) : (stCpt s i).Ok := by
  unfold stCpt
  split
  · next hc =>
    obtain ⟨k, hk⟩ : ∃ k : Nat, i = s.base + k := ⟨(i - s.base).toNat, by omega⟩
    have hN : (i - s.base).toNat = k := by omega
    have h1 := h.b0
    have h2 := h.bl
    have h3 := h.ac
    have h4 := h.cl
    have hkl : k ≤ s.es.length := by unfold St.last at *; omega
    have hb := entT_bd h k hkl
    rw [hN]
    refine ⟨by show 0 ≤ i; omega, ?_, hb.1, hb.2, hc.2, h.ac, ?_, okL_drop h.ok k, ?_⟩
    · simp only [St.last, List.length_drop] at *; omega
    · simp only [St.last, List.length_drop] at *; omega
    · show fol (s.es.drop k) i (entT s k) = true
      have := fol_drop h.fo k hkl
      rw [← hk] at this
      refine fol_low this ?_
      unfold entT
      split
      · next h0 => subst h0; exact Int.le_refl _
      · rw [lastT_take k (by omega) hkl]; exact Int.le_refl _
  · exact h
theorem stRst_ok {s : St} (h : s.Ok) (i t : Int) : (stRst s i t).Ok := by
  unfold stRst
  split
  · next hc => exact st0_ok hc.1 hc.2.1
  · exact h
end Go.Proofs.YtnhcbampojpgfaaGreat.Rg
